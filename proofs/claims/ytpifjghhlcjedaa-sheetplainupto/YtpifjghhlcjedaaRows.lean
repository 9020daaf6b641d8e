/-
  No cell of these rows narrows 'for every input' (looked for: loops, veiled, ifaces, maps, wideKeys, modest, calm, conditions, laid).
  DERIVED. THE GIVEN ROWS OF THIS SEAT. 6 by the template 'for every input the law returns true; each argument reads behind the call as it read before'; 0 by the template 'total and deterministic' (their statements: YtpifjghhlcjedaaTotals.lean).
  GIVEN WITH THE SEED: the statements are not yours to turn. If you find one false, say at which input.
  Laid BY PROGRAM, IN A SANDBOX (cutbox-rows.mjs): the forced cells as the released guide's own fill.sh prints them over the translation cc0c3d6ae8c728e0… (all of the seat's roots in one cut). By AI agents, Wed Nov 11 2026. No macro, syntax, notation, axiom, sorry.
-/
import Derived.Test.YtpifjghhlcjedaaChecked
import GoSem.Claim
import GoSem.ClaimJoined
import GoSem.ClaimMapViews
import Derived.JoinedTies
import Derived.KernelRfl
namespace Go.Proofs.Ytpifjghhlcjedaa
/- THE CELL 'sum', in the pinned program and in every row, IS THE sha256 OF THE DUMP (.gsa) THAT YtpifjghhlcjedaaProg.lean LOADS. Nothing in Lean hashes anything: it is a label: what it is worth is what the hold of that sum in a sandbox is worth. -/
noncomputable def Try.pinned : Pinned := { name := "ytpifjghhlcjedaa", sum := "cc0c3d6ae8c728e0d1cd6af36b5c99dc41eb700c1ecd28b9be43267691f0cd43", checked := Try.checked }
namespace Rows
def none {H : Type} : Left H := { results := [], args := [] }

/-- 'quoinlaw02.ShadeBlack': WHATEVER THE INPUT: true; the input reads as it did. -/
def shadeBlackSpec : ChangeSpec := { name := "shadeBlack", fn := fun _ => fun
  | [d] => { results := [.lit (.bool true)], args := [d] }
  | _ => none }
def shadeBlackRow : OpenClaim := { program := "ytpifjghhlcjedaa", sum := "cc0c3d6ae8c728e0d1cd6af36b5c99dc41eb700c1ecd28b9be43267691f0cd43", func := "quoin/quoinlaw02.ShadeBlack", spec := "shadeBlack", unfollowed := true, recurses := true, apart := false }
def ShadeBlackSaid : Prop := shadeBlackRow.holds Try.pinned (OpenSpec.ofChange shadeBlackSpec)

/-- ITS FALSE NEIGHBOUR: 'it returns false'. Refute it at one input. -/
def shadeBlackWrong : ChangeSpec := { name := "shadeBlack", fn := fun _ => fun
  | [d] => { results := [.lit (.bool false)], args := [d] }
  | _ => none }
def ShadeBlackWrongFalsely : Prop := shadeBlackRow.holds Try.pinned (OpenSpec.ofChange shadeBlackWrong)

/-- 'quoinlaw02.ShadeWalks': WHATEVER THE INPUT: true; the input reads as it did. -/
def shadeWalksSpec : ChangeSpec := { name := "shadeWalks", fn := fun _ => fun
  | [d1, d2] => { results := [.lit (.bool true)], args := [d1, d2] }
  | _ => none }
def shadeWalksRow : OpenClaim := { program := "ytpifjghhlcjedaa", sum := "cc0c3d6ae8c728e0d1cd6af36b5c99dc41eb700c1ecd28b9be43267691f0cd43", func := "quoin/quoinlaw02.ShadeWalks", spec := "shadeWalks", unfollowed := true, recurses := true, apart := false }
def ShadeWalksSaid : Prop := shadeWalksRow.holds Try.pinned (OpenSpec.ofChange shadeWalksSpec)

/-- ITS FALSE NEIGHBOUR: 'it returns false'. Refute it at one input. -/
def shadeWalksWrong : ChangeSpec := { name := "shadeWalks", fn := fun _ => fun
  | [d1, d2] => { results := [.lit (.bool false)], args := [d1, d2] }
  | _ => none }
def ShadeWalksWrongFalsely : Prop := shadeWalksRow.holds Try.pinned (OpenSpec.ofChange shadeWalksWrong)

/-- 'quoinlaw04.SheetPlain': WHATEVER THE INPUT: true; the input reads as it did. -/
def sheetPlainSpec : ChangeSpec := { name := "sheetPlain", fn := fun _ => fun
  | [d1, d2] => { results := [.lit (.bool true)], args := [d1, d2] }
  | _ => none }
def sheetPlainRow : OpenClaim := { program := "ytpifjghhlcjedaa", sum := "cc0c3d6ae8c728e0d1cd6af36b5c99dc41eb700c1ecd28b9be43267691f0cd43", func := "quoin/quoinlaw04.SheetPlain", spec := "sheetPlain", unfollowed := true, recurses := true, apart := false }
def SheetPlainSaid : Prop := sheetPlainRow.holds Try.pinned (OpenSpec.ofChange sheetPlainSpec)

/-- ITS FALSE NEIGHBOUR: 'it returns false'. Refute it at one input. -/
def sheetPlainWrong : ChangeSpec := { name := "sheetPlain", fn := fun _ => fun
  | [d1, d2] => { results := [.lit (.bool false)], args := [d1, d2] }
  | _ => none }
def SheetPlainWrongFalsely : Prop := sheetPlainRow.holds Try.pinned (OpenSpec.ofChange sheetPlainWrong)

/-- 'quoinlaw04.SheetBack': WHATEVER THE INPUT: true; the input reads as it did. -/
def sheetBackSpec : ChangeSpec := { name := "sheetBack", fn := fun _ => fun
  | [d1, d2, d3] => { results := [.lit (.bool true)], args := [d1, d2, d3] }
  | _ => none }
def sheetBackRow : OpenClaim := { program := "ytpifjghhlcjedaa", sum := "cc0c3d6ae8c728e0d1cd6af36b5c99dc41eb700c1ecd28b9be43267691f0cd43", func := "quoin/quoinlaw04.SheetBack", spec := "sheetBack", unfollowed := true, recurses := true, apart := false }
def SheetBackSaid : Prop := sheetBackRow.holds Try.pinned (OpenSpec.ofChange sheetBackSpec)

/-- ITS FALSE NEIGHBOUR: 'it returns false'. Refute it at one input. -/
def sheetBackWrong : ChangeSpec := { name := "sheetBack", fn := fun _ => fun
  | [d1, d2, d3] => { results := [.lit (.bool false)], args := [d1, d2, d3] }
  | _ => none }
def SheetBackWrongFalsely : Prop := sheetBackRow.holds Try.pinned (OpenSpec.ofChange sheetBackWrong)

/-- 'quoinlaw04.SheetFresh': WHATEVER THE INPUT: true; the input reads as it did. -/
def sheetFreshSpec : ChangeSpec := { name := "sheetFresh", fn := fun _ => fun
  | [d1, d2] => { results := [.lit (.bool true)], args := [d1, d2] }
  | _ => none }
def sheetFreshRow : OpenClaim := { program := "ytpifjghhlcjedaa", sum := "cc0c3d6ae8c728e0d1cd6af36b5c99dc41eb700c1ecd28b9be43267691f0cd43", func := "quoin/quoinlaw04.SheetFresh", spec := "sheetFresh", unfollowed := true, recurses := true, apart := false }
def SheetFreshSaid : Prop := sheetFreshRow.holds Try.pinned (OpenSpec.ofChange sheetFreshSpec)

/-- ITS FALSE NEIGHBOUR: 'it returns false'. Refute it at one input. -/
def sheetFreshWrong : ChangeSpec := { name := "sheetFresh", fn := fun _ => fun
  | [d1, d2] => { results := [.lit (.bool false)], args := [d1, d2] }
  | _ => none }
def SheetFreshWrongFalsely : Prop := sheetFreshRow.holds Try.pinned (OpenSpec.ofChange sheetFreshWrong)

/-- 'quoinlaw04.SheetNil': WHATEVER THE INPUT: true; the input reads as it did. -/
def sheetNilSpec : ChangeSpec := { name := "sheetNil", fn := fun _ => fun
  | [d1, d2] => { results := [.lit (.bool true)], args := [d1, d2] }
  | _ => none }
def sheetNilRow : OpenClaim := { program := "ytpifjghhlcjedaa", sum := "cc0c3d6ae8c728e0d1cd6af36b5c99dc41eb700c1ecd28b9be43267691f0cd43", func := "quoin/quoinlaw04.SheetNil", spec := "sheetNil", unfollowed := true, recurses := true, apart := false }
def SheetNilSaid : Prop := sheetNilRow.holds Try.pinned (OpenSpec.ofChange sheetNilSpec)

/-- ITS FALSE NEIGHBOUR: 'it returns false'. Refute it at one input. -/
def sheetNilWrong : ChangeSpec := { name := "sheetNil", fn := fun _ => fun
  | [d1, d2] => { results := [.lit (.bool false)], args := [d1, d2] }
  | _ => none }
def SheetNilWrongFalsely : Prop := sheetNilRow.holds Try.pinned (OpenSpec.ofChange sheetNilWrong)

/- THE SECOND FORM. 'bulk': how many values and letters a reading holds, each counted each time it is reached (what is shared counts as often as it is met; a slice's spare places count too). A statement '..UptoSaid' is the law's where the arguments, and the package variables that the reading takes, are together of bulk at most 1048576: NARROWER than '..Said'. Prove '..Said' where nothing that the law and all that it calls make is longer than what came in: it says more and counts as full. Else prove '..UptoSaid'. A law counts once. -/
mutual
def uptoBulk {H : Type} : DataW H → Nat
  | .lit (.string bytes) => bytes.length + 1
  | .lit _ => 1
  | .nil => 1
  | .ptr d => uptoBulk d + 1
  | .slice elems spare => uptoBulkAll elems + uptoBulkAll spare + 1
  | .agg parts => uptoBulkAll parts + 1
  | .iface _ d => uptoBulk d + 1
  | .map entries => uptoBulkEntries entries + 1
  | .held _ => 1
def uptoBulkAll {H : Type} : List (DataW H) → Nat
  | [] => 0
  | d :: r => uptoBulk d + uptoBulkAll r
def uptoBulkEntries {H : Type} : List (Lit × DataW H) → Nat
  | [] => 0
  | x :: r => uptoBulkEntry x + uptoBulkEntries r
def uptoBulkEntry {H : Type} : Lit × DataW H → Nat
  | (.string bytes, d) => bytes.length + uptoBulk d + 1
  | (_, d) => uptoBulk d + 1
 end
def uptoSmall : (H : Type) → List (DataW H) → Bool := fun _ ds => decide (uptoBulkAll ds ≤ 1048576)
def OpenSpec.upto (s : _root_.Go.ChangeSpec) : _root_.Go.OpenSpec := { _root_.Go.OpenSpec.ofChange s with cond := some uptoSmall }

/-- 'quoinlaw02.ShadeBlack', WHERE WHAT IT READS IS OF BULK AT MOST 1048576: true; the input reads as it did. -/
def shadeBlackUptoRow : OpenClaim := { program := "ytpifjghhlcjedaa", sum := "cc0c3d6ae8c728e0d1cd6af36b5c99dc41eb700c1ecd28b9be43267691f0cd43", func := "quoin/quoinlaw02.ShadeBlack", spec := "shadeBlack", unfollowed := true, recurses := true, apart := false, narrowed := true }
def ShadeBlackUptoSaid : Prop := shadeBlackUptoRow.holds Try.pinned (OpenSpec.upto shadeBlackSpec)

/-- 'quoinlaw02.ShadeWalks', WHERE WHAT IT READS IS OF BULK AT MOST 1048576: true; the input reads as it did. -/
def shadeWalksUptoRow : OpenClaim := { program := "ytpifjghhlcjedaa", sum := "cc0c3d6ae8c728e0d1cd6af36b5c99dc41eb700c1ecd28b9be43267691f0cd43", func := "quoin/quoinlaw02.ShadeWalks", spec := "shadeWalks", unfollowed := true, recurses := true, apart := false, narrowed := true }
def ShadeWalksUptoSaid : Prop := shadeWalksUptoRow.holds Try.pinned (OpenSpec.upto shadeWalksSpec)

/-- 'quoinlaw04.SheetPlain', WHERE WHAT IT READS IS OF BULK AT MOST 1048576: true; the input reads as it did. -/
def sheetPlainUptoRow : OpenClaim := { program := "ytpifjghhlcjedaa", sum := "cc0c3d6ae8c728e0d1cd6af36b5c99dc41eb700c1ecd28b9be43267691f0cd43", func := "quoin/quoinlaw04.SheetPlain", spec := "sheetPlain", unfollowed := true, recurses := true, apart := false, narrowed := true }
def SheetPlainUptoSaid : Prop := sheetPlainUptoRow.holds Try.pinned (OpenSpec.upto sheetPlainSpec)

/-- 'quoinlaw04.SheetBack', WHERE WHAT IT READS IS OF BULK AT MOST 1048576: true; the input reads as it did. -/
def sheetBackUptoRow : OpenClaim := { program := "ytpifjghhlcjedaa", sum := "cc0c3d6ae8c728e0d1cd6af36b5c99dc41eb700c1ecd28b9be43267691f0cd43", func := "quoin/quoinlaw04.SheetBack", spec := "sheetBack", unfollowed := true, recurses := true, apart := false, narrowed := true }
def SheetBackUptoSaid : Prop := sheetBackUptoRow.holds Try.pinned (OpenSpec.upto sheetBackSpec)

/-- 'quoinlaw04.SheetFresh', WHERE WHAT IT READS IS OF BULK AT MOST 1048576: true; the input reads as it did. -/
def sheetFreshUptoRow : OpenClaim := { program := "ytpifjghhlcjedaa", sum := "cc0c3d6ae8c728e0d1cd6af36b5c99dc41eb700c1ecd28b9be43267691f0cd43", func := "quoin/quoinlaw04.SheetFresh", spec := "sheetFresh", unfollowed := true, recurses := true, apart := false, narrowed := true }
def SheetFreshUptoSaid : Prop := sheetFreshUptoRow.holds Try.pinned (OpenSpec.upto sheetFreshSpec)

/-- 'quoinlaw04.SheetNil', WHERE WHAT IT READS IS OF BULK AT MOST 1048576: true; the input reads as it did. -/
def sheetNilUptoRow : OpenClaim := { program := "ytpifjghhlcjedaa", sum := "cc0c3d6ae8c728e0d1cd6af36b5c99dc41eb700c1ecd28b9be43267691f0cd43", func := "quoin/quoinlaw04.SheetNil", spec := "sheetNil", unfollowed := true, recurses := true, apart := false, narrowed := true }
def SheetNilUptoSaid : Prop := sheetNilUptoRow.holds Try.pinned (OpenSpec.upto sheetNilSpec)

end Rows
end Go.Proofs.Ytpifjghhlcjedaa
