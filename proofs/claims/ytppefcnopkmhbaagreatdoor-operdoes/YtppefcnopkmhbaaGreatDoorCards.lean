/-
  DERIVED. GIVEN WITH THE SEED: THE CARDS: each row of YtppefcnopkmhbaaGreatDoorRows.lean that lists a variable, with what it lists TIED to the program's text (the seventh form; the later family's looks); each row that meets fmt, with fmt's text TOLD by the authors' own Lean function (tested against real Go, not proved from fmt's source: count such statements apart). THE CARD IS WHAT COUNTS. Prove the row's statement (the work); the ties are given (YtppefcnopkmhbaaGreatDoorTie.lean); close each card by the builder's one call (the guide's Derived/Test/ToyasCard.lean, 'card_holds'). Laid BY PROGRAM, IN A SANDBOX (cutbox-door.mjs). By AI agents, Wed Nov 11 2026. No macro, syntax, notation, axiom, sorry.
-/
import Derived.Test.YtppefcnopkmhbaaGreatDoorRows
import GoSem.ClaimSeven
namespace Go.Proofs.YtppefcnopkmhbaaGreatDoor
namespace Rows

/-- THE TIED CARD OF 'quoinlaw19.OperDoes'. -/
def operDoesCard : Claim7 := { stood := { row := operDoesRow, standIns := [], harness := (true, "2645cdfd1650fb99951ba3dbae8e302c1fe66d7d3754e98621f0249757366984"), looks := false }, kinds := [], alts := [], laidByText := true, laidKinds := [.data, .pinned], laidTests := true, laidLooks := .later }
def OperDoesCardSaid : Prop := Claim7.holds Tryz.pinned (.plain (OpenSpec.ofChange operDoesSpec)) operDoesCard

/-- THE TIED CARD OF 'quoinlaw19.OperPuts'. -/
def operPutsCard : Claim7 := { stood := { row := operPutsRow, standIns := [], harness := (true, "2645cdfd1650fb99951ba3dbae8e302c1fe66d7d3754e98621f0249757366984"), looks := false }, kinds := [], alts := [], laidByText := true, laidKinds := [.data, .pinned], laidTests := true, laidLooks := .later }
def OperPutsCardSaid : Prop := Claim7.holds Tryz.pinned (.plain (OpenSpec.ofChange operPutsSpec)) operPutsCard

/-- THE TIED CARD OF 'quoinlaw19.OperSmalls'. -/
def operSmallsCard : Claim7 := { stood := { row := operSmallsRow, standIns := [], harness := (true, "2645cdfd1650fb99951ba3dbae8e302c1fe66d7d3754e98621f0249757366984"), looks := false }, kinds := [], alts := [], laidByText := true, laidKinds := [.data, .pinned], laidTests := true, laidLooks := .later }
def OperSmallsCardSaid : Prop := Claim7.holds Tryz.pinned (.plain (OpenSpec.ofChange operSmallsSpec)) operSmallsCard

/-- THE TIED CARD OF 'quoinlaw19.OperFits'. -/
def operFitsCard : Claim7 := { stood := { row := operFitsRow, standIns := [], harness := (true, "2645cdfd1650fb99951ba3dbae8e302c1fe66d7d3754e98621f0249757366984"), looks := false }, kinds := [], alts := [], laidByText := true, laidKinds := [.data, .pinned], laidTests := true, laidLooks := .later }
def OperFitsCardSaid : Prop := Claim7.holds Tryz.pinned (.plain (OpenSpec.ofChange operFitsSpec)) operFitsCard

/-- THE SECOND FORM's CARD OF 'quoinlaw19.OperDoes'. -/
def operDoesUptoCard : Claim7 := { stood := { row := operDoesUptoRow, standIns := [], harness := (true, "2645cdfd1650fb99951ba3dbae8e302c1fe66d7d3754e98621f0249757366984"), looks := false }, kinds := [], alts := [], laidByText := true, laidKinds := [.data, .pinned], laidTests := true, laidLooks := .later }
def OperDoesUptoCardSaid : Prop := Claim7.holds Tryz.pinned (.plain (OpenSpec.upto operDoesSpec)) operDoesUptoCard

/-- THE SECOND FORM's CARD OF 'quoinlaw19.OperPuts'. -/
def operPutsUptoCard : Claim7 := { stood := { row := operPutsUptoRow, standIns := [], harness := (true, "2645cdfd1650fb99951ba3dbae8e302c1fe66d7d3754e98621f0249757366984"), looks := false }, kinds := [], alts := [], laidByText := true, laidKinds := [.data, .pinned], laidTests := true, laidLooks := .later }
def OperPutsUptoCardSaid : Prop := Claim7.holds Tryz.pinned (.plain (OpenSpec.upto operPutsSpec)) operPutsUptoCard

/-- THE SECOND FORM's CARD OF 'quoinlaw19.OperSmalls'. -/
def operSmallsUptoCard : Claim7 := { stood := { row := operSmallsUptoRow, standIns := [], harness := (true, "2645cdfd1650fb99951ba3dbae8e302c1fe66d7d3754e98621f0249757366984"), looks := false }, kinds := [], alts := [], laidByText := true, laidKinds := [.data, .pinned], laidTests := true, laidLooks := .later }
def OperSmallsUptoCardSaid : Prop := Claim7.holds Tryz.pinned (.plain (OpenSpec.upto operSmallsSpec)) operSmallsUptoCard

/-- THE SECOND FORM's CARD OF 'quoinlaw19.OperFits'. -/
def operFitsUptoCard : Claim7 := { stood := { row := operFitsUptoRow, standIns := [], harness := (true, "2645cdfd1650fb99951ba3dbae8e302c1fe66d7d3754e98621f0249757366984"), looks := false }, kinds := [], alts := [], laidByText := true, laidKinds := [.data, .pinned], laidTests := true, laidLooks := .later }
def OperFitsUptoCardSaid : Prop := Claim7.holds Tryz.pinned (.plain (OpenSpec.upto operFitsSpec)) operFitsUptoCard
end Rows
end Go.Proofs.YtppefcnopkmhbaaGreatDoor
