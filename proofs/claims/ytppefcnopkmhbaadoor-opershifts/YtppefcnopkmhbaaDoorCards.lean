/-
  DERIVED. GIVEN WITH THE SEED: THE CARDS: each row of YtppefcnopkmhbaaDoorRows.lean that lists a variable, with what it lists TIED to the program's text (the seventh form; the later family's looks); each row that meets fmt, with fmt's text TOLD by the authors' own Lean function (tested against real Go, not proved from fmt's source: count such statements apart). THE CARD IS WHAT COUNTS. Prove the row's statement (the work); the ties are given (YtppefcnopkmhbaaDoorTie.lean); close each card by the builder's one call (the guide's Derived/Test/ToyasCard.lean, 'card_holds'). Laid BY PROGRAM, IN A SANDBOX (cutbox-door.mjs). By AI agents, Wed Nov 11 2026. No macro, syntax, notation, axiom, sorry.
-/
import Derived.Test.YtppefcnopkmhbaaDoorRows
import GoSem.ClaimSeven
namespace Go.Proofs.YtppefcnopkmhbaaDoor
namespace Rows

/-- THE TIED CARD OF 'quoinlaw19.OperBack'. -/
def operBackCard : Claim7 := { stood := { row := operBackRow, standIns := [], harness := (true, "6a8c279fb62d8f7dbd8bf872a434a90d6e9d5c5412916f751825fd91930ed17b"), looks := false }, kinds := [], alts := [], laidByText := true, laidKinds := [.data, .pinned], laidTests := true, laidLooks := .later }
def OperBackCardSaid : Prop := Claim7.holds Tryd.pinned (.plain (OpenSpec.ofChange operBackSpec)) operBackCard

/-- THE TIED CARD OF 'quoinlaw19.OperCases'. -/
def operCasesCard : Claim7 := { stood := { row := operCasesRow, standIns := [], harness := (true, "6a8c279fb62d8f7dbd8bf872a434a90d6e9d5c5412916f751825fd91930ed17b"), looks := false }, kinds := [], alts := [], laidByText := true, laidKinds := [.data, .pinned], laidTests := true, laidLooks := .later }
def OperCasesCardSaid : Prop := Claim7.holds Tryd.pinned (.plain (OpenSpec.ofChange operCasesSpec)) operCasesCard

/-- THE TIED CARD OF 'quoinlaw19.OperShifts'. -/
def operShiftsCard : Claim7 := { stood := { row := operShiftsRow, standIns := [], harness := (true, "6a8c279fb62d8f7dbd8bf872a434a90d6e9d5c5412916f751825fd91930ed17b"), looks := false }, kinds := [], alts := [], laidByText := true, laidKinds := [.data, .pinned], laidTests := true, laidLooks := .later }
def OperShiftsCardSaid : Prop := Claim7.holds Tryd.pinned (.plain (OpenSpec.ofChange operShiftsSpec)) operShiftsCard

/-- THE SECOND FORM's CARD OF 'quoinlaw19.OperBack'. -/
def operBackUptoCard : Claim7 := { stood := { row := operBackUptoRow, standIns := [], harness := (true, "6a8c279fb62d8f7dbd8bf872a434a90d6e9d5c5412916f751825fd91930ed17b"), looks := false }, kinds := [], alts := [], laidByText := true, laidKinds := [.data, .pinned], laidTests := true, laidLooks := .later }
def OperBackUptoCardSaid : Prop := Claim7.holds Tryd.pinned (.plain (OpenSpec.upto operBackSpec)) operBackUptoCard

/-- THE SECOND FORM's CARD OF 'quoinlaw19.OperCases'. -/
def operCasesUptoCard : Claim7 := { stood := { row := operCasesUptoRow, standIns := [], harness := (true, "6a8c279fb62d8f7dbd8bf872a434a90d6e9d5c5412916f751825fd91930ed17b"), looks := false }, kinds := [], alts := [], laidByText := true, laidKinds := [.data, .pinned], laidTests := true, laidLooks := .later }
def OperCasesUptoCardSaid : Prop := Claim7.holds Tryd.pinned (.plain (OpenSpec.upto operCasesSpec)) operCasesUptoCard

/-- THE SECOND FORM's CARD OF 'quoinlaw19.OperShifts'. -/
def operShiftsUptoCard : Claim7 := { stood := { row := operShiftsUptoRow, standIns := [], harness := (true, "6a8c279fb62d8f7dbd8bf872a434a90d6e9d5c5412916f751825fd91930ed17b"), looks := false }, kinds := [], alts := [], laidByText := true, laidKinds := [.data, .pinned], laidTests := true, laidLooks := .later }
def OperShiftsUptoCardSaid : Prop := Claim7.holds Tryd.pinned (.plain (OpenSpec.upto operShiftsSpec)) operShiftsUptoCard
end Rows
end Go.Proofs.YtppefcnopkmhbaaDoor
