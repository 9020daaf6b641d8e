/-
  DERIVED. GIVEN WITH THE SEED: THE CARDS: each row of YtkapddemgodamaaDoorRows.lean that lists a variable, with what it lists TIED to the program's text (the seventh form; the later family's looks); each row that meets fmt, with fmt's text TOLD by the authors' own Lean function (tested against real Go, not proved from fmt's source: count such statements apart). THE CARD IS WHAT COUNTS. Prove the row's statement (the work); the ties are given (YtkapddemgodamaaDoorTie.lean); close each card by the builder's one call (the guide's Derived/Test/ToyasCard.lean, 'card_holds'). Laid BY PROGRAM, IN A SANDBOX (cutbox-door.mjs). By AI agents, Wed Nov 11 2026. No macro, syntax, notation, axiom, sorry.
-/
import Derived.Test.YtkapddemgodamaaDoorRows
import GoSem.ClaimSeven
namespace Go.Proofs.YtkapddemgodamaaDoor
namespace Rows

/-- THE TIED CARD OF 'quoinlaw10.BlockMoves'. -/
def blockMovesCard : Claim7 := { stood := { row := blockMovesRow, standIns := [], harness := (true, "e3f98c159f9de53105dc74fa11e48ea042e67f451e7e662805393f3443b9fe12"), looks := false }, kinds := [], alts := [], laidByText := true, laidKinds := [.data, .pinned], laidTests := true, laidLooks := .later }
def BlockMovesCardSaid : Prop := Claim7.holds Tryd.pinned (.plain (OpenSpec.ofChange blockMovesSpec)) blockMovesCard

/-- THE TIED CARD OF 'quoinlaw10.BlockTimes'. -/
def blockTimesCard : Claim7 := { stood := { row := blockTimesRow, standIns := [], harness := (true, "e3f98c159f9de53105dc74fa11e48ea042e67f451e7e662805393f3443b9fe12"), looks := false }, kinds := [], alts := [], laidByText := true, laidKinds := [.data, .pinned], laidTests := true, laidLooks := .later }
def BlockTimesCardSaid : Prop := Claim7.holds Tryd.pinned (.plain (OpenSpec.ofChange blockTimesSpec)) blockTimesCard

/-- THE TIED CARD OF 'quoinlaw10.BlockPairs'. -/
def blockPairsCard : Claim7 := { stood := { row := blockPairsRow, standIns := [], harness := (true, "e3f98c159f9de53105dc74fa11e48ea042e67f451e7e662805393f3443b9fe12"), looks := false }, kinds := [], alts := [], laidByText := true, laidKinds := [.data, .pinned], laidTests := true, laidLooks := .later }
def BlockPairsCardSaid : Prop := Claim7.holds Tryd.pinned (.plain (OpenSpec.ofChange blockPairsSpec)) blockPairsCard

/-- THE TIED CARD OF 'quoinlaw10.BlockStops'. -/
def blockStopsCard : Claim7 := { stood := { row := blockStopsRow, standIns := [], harness := (true, "e3f98c159f9de53105dc74fa11e48ea042e67f451e7e662805393f3443b9fe12"), looks := false }, kinds := [], alts := [], laidByText := true, laidKinds := [.data, .pinned], laidTests := true, laidLooks := .later }
def BlockStopsCardSaid : Prop := Claim7.holds Tryd.pinned (.plain (OpenSpec.ofChange blockStopsSpec)) blockStopsCard

/-- THE SECOND FORM's CARD OF 'quoinlaw10.BlockMoves'. -/
def blockMovesUptoCard : Claim7 := { stood := { row := blockMovesUptoRow, standIns := [], harness := (true, "e3f98c159f9de53105dc74fa11e48ea042e67f451e7e662805393f3443b9fe12"), looks := false }, kinds := [], alts := [], laidByText := true, laidKinds := [.data, .pinned], laidTests := true, laidLooks := .later }
def BlockMovesUptoCardSaid : Prop := Claim7.holds Tryd.pinned (.plain (OpenSpec.upto blockMovesSpec)) blockMovesUptoCard

/-- THE SECOND FORM's CARD OF 'quoinlaw10.BlockTimes'. -/
def blockTimesUptoCard : Claim7 := { stood := { row := blockTimesUptoRow, standIns := [], harness := (true, "e3f98c159f9de53105dc74fa11e48ea042e67f451e7e662805393f3443b9fe12"), looks := false }, kinds := [], alts := [], laidByText := true, laidKinds := [.data, .pinned], laidTests := true, laidLooks := .later }
def BlockTimesUptoCardSaid : Prop := Claim7.holds Tryd.pinned (.plain (OpenSpec.upto blockTimesSpec)) blockTimesUptoCard

/-- THE SECOND FORM's CARD OF 'quoinlaw10.BlockPairs'. -/
def blockPairsUptoCard : Claim7 := { stood := { row := blockPairsUptoRow, standIns := [], harness := (true, "e3f98c159f9de53105dc74fa11e48ea042e67f451e7e662805393f3443b9fe12"), looks := false }, kinds := [], alts := [], laidByText := true, laidKinds := [.data, .pinned], laidTests := true, laidLooks := .later }
def BlockPairsUptoCardSaid : Prop := Claim7.holds Tryd.pinned (.plain (OpenSpec.upto blockPairsSpec)) blockPairsUptoCard

/-- THE SECOND FORM's CARD OF 'quoinlaw10.BlockStops'. -/
def blockStopsUptoCard : Claim7 := { stood := { row := blockStopsUptoRow, standIns := [], harness := (true, "e3f98c159f9de53105dc74fa11e48ea042e67f451e7e662805393f3443b9fe12"), looks := false }, kinds := [], alts := [], laidByText := true, laidKinds := [.data, .pinned], laidTests := true, laidLooks := .later }
def BlockStopsUptoCardSaid : Prop := Claim7.holds Tryd.pinned (.plain (OpenSpec.upto blockStopsSpec)) blockStopsUptoCard
end Rows
end Go.Proofs.YtkapddemgodamaaDoor
