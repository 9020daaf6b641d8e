/-
  No cell of these rows narrows 'for every input' (looked for: loops, veiled, ifaces, maps, wideKeys, modest, calm, conditions, laid).
  DERIVED. THE GIVEN ROWS OF THIS SEAT. 4 by the template 'for every input the law returns true; each argument reads behind the call as it read before'; 0 by the template 'total and deterministic' (their statements: YtgdhdegmjljbfaaTotals.lean).
  GIVEN WITH THE SEED: the statements are not yours to turn. If you find one false, say at which input.
  Laid BY PROGRAM, IN A SANDBOX (cutbox-rows.mjs): the forced cells as the released guide's own fill.sh prints them over the translation a467b0ff3a6e8cbf… (all of the seat's roots in one cut). By AI agents, Wed Nov 11 2026. No macro, syntax, notation, axiom, sorry.
-/
import Derived.Test.YtgdhdegmjljbfaaChecked
import GoSem.Claim
import GoSem.ClaimJoined
import GoSem.ClaimMapViews
import Derived.JoinedTies
import Derived.KernelRfl
namespace Go.Proofs.Ytgdhdegmjljbfaa
/- THE CELL 'sum', in the pinned program and in every row, IS THE sha256 OF THE DUMP (.gsa) THAT YtgdhdegmjljbfaaProg.lean LOADS. Nothing in Lean hashes anything: it is a label: what it is worth is what the hold of that sum in a sandbox is worth. -/
noncomputable def Try.pinned : Pinned := { name := "ytgdhdegmjljbfaa", sum := "a467b0ff3a6e8cbfc0ca6d28a6166bf4b31f55b9999ad8d7064269f6aa4350ee", checked := Try.checked }
namespace Rows
def none {H : Type} : Left H := { results := [], args := [] }

/-- 'quoinlaw13.ObjectSelects': WHATEVER THE INPUT: true; the input reads as it did. -/
def objectSelectsSpec : ChangeSpec := { name := "objectSelects", fn := fun _ => fun
  | [d1, d2] => { results := [.lit (.bool true)], args := [d1, d2] }
  | _ => none }
def objectSelectsRow : OpenClaim := { program := "ytgdhdegmjljbfaa", sum := "a467b0ff3a6e8cbfc0ca6d28a6166bf4b31f55b9999ad8d7064269f6aa4350ee", func := "quoin/quoinlaw13.ObjectSelects", spec := "objectSelects", inPlace := ["internal/bytealg.IndexByteString", "internal/bytealg.Count", "internal/bytealg.IndexByte", "internal/bytealg.Index"], unfollowed := true, recurses := true, named := ["internal/bytealg.MaxLen"], apart := false }
def ObjectSelectsSaid : Prop := objectSelectsRow.holds Try.pinned (OpenSpec.ofChange objectSelectsSpec)

/-- ITS FALSE NEIGHBOUR: 'it returns false'. Refute it at one input. -/
def objectSelectsWrong : ChangeSpec := { name := "objectSelects", fn := fun _ => fun
  | [d1, d2] => { results := [.lit (.bool false)], args := [d1, d2] }
  | _ => none }
def ObjectSelectsWrongFalsely : Prop := objectSelectsRow.holds Try.pinned (OpenSpec.ofChange objectSelectsWrong)

/-- 'quoinlaw13.ObjectHolds': WHATEVER THE INPUT: true; the input reads as it did. -/
def objectHoldsSpec : ChangeSpec := { name := "objectHolds", fn := fun _ => fun
  | [d1, d2, d3] => { results := [.lit (.bool true)], args := [d1, d2, d3] }
  | _ => none }
def objectHoldsRow : OpenClaim := { program := "ytgdhdegmjljbfaa", sum := "a467b0ff3a6e8cbfc0ca6d28a6166bf4b31f55b9999ad8d7064269f6aa4350ee", func := "quoin/quoinlaw13.ObjectHolds", spec := "objectHolds", inPlace := ["internal/bytealg.IndexByteString", "internal/bytealg.Count", "internal/bytealg.IndexByte", "internal/bytealg.Index"], unfollowed := true, recurses := true, named := ["internal/bytealg.MaxLen"], apart := false }
def ObjectHoldsSaid : Prop := objectHoldsRow.holds Try.pinned (OpenSpec.ofChange objectHoldsSpec)

/-- ITS FALSE NEIGHBOUR: 'it returns false'. Refute it at one input. -/
def objectHoldsWrong : ChangeSpec := { name := "objectHolds", fn := fun _ => fun
  | [d1, d2, d3] => { results := [.lit (.bool false)], args := [d1, d2, d3] }
  | _ => none }
def ObjectHoldsWrongFalsely : Prop := objectHoldsRow.holds Try.pinned (OpenSpec.ofChange objectHoldsWrong)

/-- 'quoinlaw13.ObjectNests': WHATEVER THE INPUT: true; the input reads as it did. -/
def objectNestsSpec : ChangeSpec := { name := "objectNests", fn := fun _ => fun
  | [d1, d2, d3] => { results := [.lit (.bool true)], args := [d1, d2, d3] }
  | _ => none }
def objectNestsRow : OpenClaim := { program := "ytgdhdegmjljbfaa", sum := "a467b0ff3a6e8cbfc0ca6d28a6166bf4b31f55b9999ad8d7064269f6aa4350ee", func := "quoin/quoinlaw13.ObjectNests", spec := "objectNests", inPlace := ["internal/bytealg.IndexByteString", "internal/bytealg.Count", "internal/bytealg.IndexByte", "internal/bytealg.Index"], unfollowed := true, recurses := true, named := ["internal/bytealg.MaxLen"], apart := false }
def ObjectNestsSaid : Prop := objectNestsRow.holds Try.pinned (OpenSpec.ofChange objectNestsSpec)

/-- ITS FALSE NEIGHBOUR: 'it returns false'. Refute it at one input. -/
def objectNestsWrong : ChangeSpec := { name := "objectNests", fn := fun _ => fun
  | [d1, d2, d3] => { results := [.lit (.bool false)], args := [d1, d2, d3] }
  | _ => none }
def ObjectNestsWrongFalsely : Prop := objectNestsRow.holds Try.pinned (OpenSpec.ofChange objectNestsWrong)

/-- 'quoinlaw13.ObjectRuns': WHATEVER THE INPUT: true; the input reads as it did. -/
def objectRunsSpec : ChangeSpec := { name := "objectRuns", fn := fun _ => fun
  | [d1, d2, d3] => { results := [.lit (.bool true)], args := [d1, d2, d3] }
  | _ => none }
def objectRunsRow : OpenClaim := { program := "ytgdhdegmjljbfaa", sum := "a467b0ff3a6e8cbfc0ca6d28a6166bf4b31f55b9999ad8d7064269f6aa4350ee", func := "quoin/quoinlaw13.ObjectRuns", spec := "objectRuns", inPlace := ["internal/bytealg.IndexByteString", "internal/bytealg.Count", "internal/bytealg.IndexByte", "internal/bytealg.Index"], unfollowed := true, recurses := true, named := ["internal/bytealg.MaxLen"], apart := false }
def ObjectRunsSaid : Prop := objectRunsRow.holds Try.pinned (OpenSpec.ofChange objectRunsSpec)

/-- ITS FALSE NEIGHBOUR: 'it returns false'. Refute it at one input. -/
def objectRunsWrong : ChangeSpec := { name := "objectRuns", fn := fun _ => fun
  | [d1, d2, d3] => { results := [.lit (.bool false)], args := [d1, d2, d3] }
  | _ => none }
def ObjectRunsWrongFalsely : Prop := objectRunsRow.holds Try.pinned (OpenSpec.ofChange objectRunsWrong)

/- THE SECOND FORM. 'bulk': how many values and letters a reading holds, each counted each time it is reached (what is shared counts as often as it is met; a slice's spare places count too). A statement '..UptoSaid' is the law's where the arguments, and the package variables that the reading takes, are together of bulk at most 1048576: NARROWER than '..Said'. Prove '..Said' where nothing that the law and all that it calls make is longer than what came in: it says more and counts as full. Else prove '..UptoSaid'. A law counts once. -/
mutual
def uptoBulk {H : Type} : DataW H → Nat
  | .lit (.string bytes) => bytes.length + 1
  | .lit _ => 1
  | .nil => 1
  | .ptr d => uptoBulk d + 1
  | .slice elems spare => uptoBulkAll elems + uptoBulkAll spare + 1
  | .agg parts => uptoBulkAll parts + 1
  | .iface _ d => uptoBulk d + 1
  | .map entries => uptoBulkEntries entries + 1
  | .held _ => 1
def uptoBulkAll {H : Type} : List (DataW H) → Nat
  | [] => 0
  | d :: r => uptoBulk d + uptoBulkAll r
def uptoBulkEntries {H : Type} : List (Lit × DataW H) → Nat
  | [] => 0
  | x :: r => uptoBulkEntry x + uptoBulkEntries r
def uptoBulkEntry {H : Type} : Lit × DataW H → Nat
  | (.string bytes, d) => bytes.length + uptoBulk d + 1
  | (_, d) => uptoBulk d + 1
 end
def uptoSmall : (H : Type) → List (DataW H) → Bool := fun _ ds => decide (uptoBulkAll ds ≤ 1048576)
def OpenSpec.upto (s : _root_.Go.ChangeSpec) : _root_.Go.OpenSpec := { _root_.Go.OpenSpec.ofChange s with cond := some uptoSmall }

/-- 'quoinlaw13.ObjectSelects', WHERE WHAT IT READS IS OF BULK AT MOST 1048576: true; the input reads as it did. -/
def objectSelectsUptoRow : OpenClaim := { program := "ytgdhdegmjljbfaa", sum := "a467b0ff3a6e8cbfc0ca6d28a6166bf4b31f55b9999ad8d7064269f6aa4350ee", func := "quoin/quoinlaw13.ObjectSelects", spec := "objectSelects", inPlace := ["internal/bytealg.IndexByteString", "internal/bytealg.Count", "internal/bytealg.IndexByte", "internal/bytealg.Index"], unfollowed := true, recurses := true, named := ["internal/bytealg.MaxLen"], apart := false, narrowed := true }
def ObjectSelectsUptoSaid : Prop := objectSelectsUptoRow.holds Try.pinned (OpenSpec.upto objectSelectsSpec)

/-- 'quoinlaw13.ObjectHolds', WHERE WHAT IT READS IS OF BULK AT MOST 1048576: true; the input reads as it did. -/
def objectHoldsUptoRow : OpenClaim := { program := "ytgdhdegmjljbfaa", sum := "a467b0ff3a6e8cbfc0ca6d28a6166bf4b31f55b9999ad8d7064269f6aa4350ee", func := "quoin/quoinlaw13.ObjectHolds", spec := "objectHolds", inPlace := ["internal/bytealg.IndexByteString", "internal/bytealg.Count", "internal/bytealg.IndexByte", "internal/bytealg.Index"], unfollowed := true, recurses := true, named := ["internal/bytealg.MaxLen"], apart := false, narrowed := true }
def ObjectHoldsUptoSaid : Prop := objectHoldsUptoRow.holds Try.pinned (OpenSpec.upto objectHoldsSpec)

/-- 'quoinlaw13.ObjectNests', WHERE WHAT IT READS IS OF BULK AT MOST 1048576: true; the input reads as it did. -/
def objectNestsUptoRow : OpenClaim := { program := "ytgdhdegmjljbfaa", sum := "a467b0ff3a6e8cbfc0ca6d28a6166bf4b31f55b9999ad8d7064269f6aa4350ee", func := "quoin/quoinlaw13.ObjectNests", spec := "objectNests", inPlace := ["internal/bytealg.IndexByteString", "internal/bytealg.Count", "internal/bytealg.IndexByte", "internal/bytealg.Index"], unfollowed := true, recurses := true, named := ["internal/bytealg.MaxLen"], apart := false, narrowed := true }
def ObjectNestsUptoSaid : Prop := objectNestsUptoRow.holds Try.pinned (OpenSpec.upto objectNestsSpec)

/-- 'quoinlaw13.ObjectRuns', WHERE WHAT IT READS IS OF BULK AT MOST 1048576: true; the input reads as it did. -/
def objectRunsUptoRow : OpenClaim := { program := "ytgdhdegmjljbfaa", sum := "a467b0ff3a6e8cbfc0ca6d28a6166bf4b31f55b9999ad8d7064269f6aa4350ee", func := "quoin/quoinlaw13.ObjectRuns", spec := "objectRuns", inPlace := ["internal/bytealg.IndexByteString", "internal/bytealg.Count", "internal/bytealg.IndexByte", "internal/bytealg.Index"], unfollowed := true, recurses := true, named := ["internal/bytealg.MaxLen"], apart := false, narrowed := true }
def ObjectRunsUptoSaid : Prop := objectRunsUptoRow.holds Try.pinned (OpenSpec.upto objectRunsSpec)

end Rows
end Go.Proofs.Ytgdhdegmjljbfaa
