/-
  No cell of these rows narrows 'for every input' (looked for: loops, veiled, ifaces, maps, wideKeys, modest, calm, conditions, laid).
  DERIVED. THE GIVEN ROWS OF THIS SEAT. 8 by the template 'for every input the law returns true; each argument reads behind the call as it read before'; 0 by the template 'total and deterministic' (their statements: YtaakgoojcogbcaaTotals.lean).
  GIVEN WITH THE SEED: the statements are not yours to turn. If you find one false, say at which input.
  Laid BY PROGRAM, IN A SANDBOX (cutbox-rows.mjs): the forced cells as the released guide's own fill.sh prints them over the translation d22b3ab745c0e0ed… (all of the seat's roots in one cut). By AI agents, Wed Nov 11 2026. No macro, syntax, notation, axiom, sorry.
-/
import Derived.Test.YtaakgoojcogbcaaChecked
import GoSem.Claim
import GoSem.ClaimJoined
import GoSem.ClaimMapViews
import Derived.JoinedTies
import Derived.KernelRfl
namespace Go.Proofs.Ytaakgoojcogbcaa
/- THE CELL 'sum', in the pinned program and in every row, IS THE sha256 OF THE DUMP (.gsa) THAT YtaakgoojcogbcaaProg.lean LOADS. Nothing in Lean hashes anything: it is a label: what it is worth is what the hold of that sum in a sandbox is worth. -/
noncomputable def Try.pinned : Pinned := { name := "ytaakgoojcogbcaa", sum := "d22b3ab745c0e0edb599eba63da58c1e60386816eaf3f5d7e9329e381a00785d", checked := Try.checked }
namespace Rows
def none {H : Type} : Left H := { results := [], args := [] }

/-- 'quoinlaw11.PatternFinds': WHATEVER THE INPUT: true; the input reads as it did. -/
def patternFindsSpec : ChangeSpec := { name := "patternFinds", fn := fun _ => fun
  | [d1, d2, d3] => { results := [.lit (.bool true)], args := [d1, d2, d3] }
  | _ => none }
def patternFindsRow : OpenClaim := { program := "ytaakgoojcogbcaa", sum := "d22b3ab745c0e0edb599eba63da58c1e60386816eaf3f5d7e9329e381a00785d", func := "quoin/quoinlaw11.PatternFinds", spec := "patternFinds", apart := false }
def PatternFindsSaid : Prop := patternFindsRow.holds Try.pinned (OpenSpec.ofChange patternFindsSpec)

/-- ITS FALSE NEIGHBOUR: 'it returns false'. Refute it at one input. -/
def patternFindsWrong : ChangeSpec := { name := "patternFinds", fn := fun _ => fun
  | [d1, d2, d3] => { results := [.lit (.bool false)], args := [d1, d2, d3] }
  | _ => none }
def PatternFindsWrongFalsely : Prop := patternFindsRow.holds Try.pinned (OpenSpec.ofChange patternFindsWrong)

/-- 'quoinlaw11.PatternAlls': WHATEVER THE INPUT: true; the input reads as it did. -/
def patternAllsSpec : ChangeSpec := { name := "patternAlls", fn := fun _ => fun
  | [d1, d2] => { results := [.lit (.bool true)], args := [d1, d2] }
  | _ => none }
def patternAllsRow : OpenClaim := { program := "ytaakgoojcogbcaa", sum := "d22b3ab745c0e0edb599eba63da58c1e60386816eaf3f5d7e9329e381a00785d", func := "quoin/quoinlaw11.PatternAlls", spec := "patternAlls", apart := false }
def PatternAllsSaid : Prop := patternAllsRow.holds Try.pinned (OpenSpec.ofChange patternAllsSpec)

/-- ITS FALSE NEIGHBOUR: 'it returns false'. Refute it at one input. -/
def patternAllsWrong : ChangeSpec := { name := "patternAlls", fn := fun _ => fun
  | [d1, d2] => { results := [.lit (.bool false)], args := [d1, d2] }
  | _ => none }
def PatternAllsWrongFalsely : Prop := patternAllsRow.holds Try.pinned (OpenSpec.ofChange patternAllsWrong)

/-- 'quoinlaw12.HuntNexts': WHATEVER THE INPUT: true; the input reads as it did. -/
def huntNextsSpec : ChangeSpec := { name := "huntNexts", fn := fun _ => fun
  | [d] => { results := [.lit (.bool true)], args := [d] }
  | _ => none }
def huntNextsRow : OpenClaim := { program := "ytaakgoojcogbcaa", sum := "d22b3ab745c0e0edb599eba63da58c1e60386816eaf3f5d7e9329e381a00785d", func := "quoin/quoinlaw12.HuntNexts", spec := "huntNexts", inPlace := ["internal/bytealg.IndexByte", "internal/bytealg.IndexByteString"], unfollowed := true, recurses := true, apart := false }
def HuntNextsSaid : Prop := huntNextsRow.holds Try.pinned (OpenSpec.ofChange huntNextsSpec)

/-- ITS FALSE NEIGHBOUR: 'it returns false'. Refute it at one input. -/
def huntNextsWrong : ChangeSpec := { name := "huntNexts", fn := fun _ => fun
  | [d] => { results := [.lit (.bool false)], args := [d] }
  | _ => none }
def HuntNextsWrongFalsely : Prop := huntNextsRow.holds Try.pinned (OpenSpec.ofChange huntNextsWrong)

/-- 'quoinlaw12.HuntUnders': WHATEVER THE INPUT: true; the input reads as it did. -/
def huntUndersSpec : ChangeSpec := { name := "huntUnders", fn := fun _ => fun
  | [d1, d2] => { results := [.lit (.bool true)], args := [d1, d2] }
  | _ => none }
def huntUndersRow : OpenClaim := { program := "ytaakgoojcogbcaa", sum := "d22b3ab745c0e0edb599eba63da58c1e60386816eaf3f5d7e9329e381a00785d", func := "quoin/quoinlaw12.HuntUnders", spec := "huntUnders", inPlace := ["internal/bytealg.IndexByte", "internal/bytealg.IndexByteString"], unfollowed := true, recurses := true, apart := false }
def HuntUndersSaid : Prop := huntUndersRow.holds Try.pinned (OpenSpec.ofChange huntUndersSpec)

/-- ITS FALSE NEIGHBOUR: 'it returns false'. Refute it at one input. -/
def huntUndersWrong : ChangeSpec := { name := "huntUnders", fn := fun _ => fun
  | [d1, d2] => { results := [.lit (.bool false)], args := [d1, d2] }
  | _ => none }
def HuntUndersWrongFalsely : Prop := huntUndersRow.holds Try.pinned (OpenSpec.ofChange huntUndersWrong)

/-- 'quoinlaw12.HuntRounds': WHATEVER THE INPUT: true; the input reads as it did. -/
def huntRoundsSpec : ChangeSpec := { name := "huntRounds", fn := fun _ => fun
  | [d] => { results := [.lit (.bool true)], args := [d] }
  | _ => none }
def huntRoundsRow : OpenClaim := { program := "ytaakgoojcogbcaa", sum := "d22b3ab745c0e0edb599eba63da58c1e60386816eaf3f5d7e9329e381a00785d", func := "quoin/quoinlaw12.HuntRounds", spec := "huntRounds", inPlace := ["internal/bytealg.IndexByte", "internal/bytealg.IndexByteString"], unfollowed := true, recurses := true, apart := false }
def HuntRoundsSaid : Prop := huntRoundsRow.holds Try.pinned (OpenSpec.ofChange huntRoundsSpec)

/-- ITS FALSE NEIGHBOUR: 'it returns false'. Refute it at one input. -/
def huntRoundsWrong : ChangeSpec := { name := "huntRounds", fn := fun _ => fun
  | [d] => { results := [.lit (.bool false)], args := [d] }
  | _ => none }
def HuntRoundsWrongFalsely : Prop := huntRoundsRow.holds Try.pinned (OpenSpec.ofChange huntRoundsWrong)

/-- 'quoinlaw12.HuntRests': WHATEVER THE INPUT: true; the input reads as it did. -/
def huntRestsSpec : ChangeSpec := { name := "huntRests", fn := fun _ => fun
  | [d] => { results := [.lit (.bool true)], args := [d] }
  | _ => none }
def huntRestsRow : OpenClaim := { program := "ytaakgoojcogbcaa", sum := "d22b3ab745c0e0edb599eba63da58c1e60386816eaf3f5d7e9329e381a00785d", func := "quoin/quoinlaw12.HuntRests", spec := "huntRests", inPlace := ["internal/bytealg.IndexByte", "internal/bytealg.IndexByteString", "internal/bytealg.Count", "internal/bytealg.Index"], unfollowed := true, recurses := true, named := ["internal/bytealg.MaxLen"], apart := false }
def HuntRestsSaid : Prop := huntRestsRow.holds Try.pinned (OpenSpec.ofChange huntRestsSpec)

/-- ITS FALSE NEIGHBOUR: 'it returns false'. Refute it at one input. -/
def huntRestsWrong : ChangeSpec := { name := "huntRests", fn := fun _ => fun
  | [d] => { results := [.lit (.bool false)], args := [d] }
  | _ => none }
def HuntRestsWrongFalsely : Prop := huntRestsRow.holds Try.pinned (OpenSpec.ofChange huntRestsWrong)

/-- 'quoinlaw12.HuntWords': WHATEVER THE INPUT: true; the input reads as it did. -/
def huntWordsSpec : ChangeSpec := { name := "huntWords", fn := fun _ => fun
  | [d1, d2] => { results := [.lit (.bool true)], args := [d1, d2] }
  | _ => none }
def huntWordsRow : OpenClaim := { program := "ytaakgoojcogbcaa", sum := "d22b3ab745c0e0edb599eba63da58c1e60386816eaf3f5d7e9329e381a00785d", func := "quoin/quoinlaw12.HuntWords", spec := "huntWords", inPlace := ["internal/bytealg.IndexByte", "internal/bytealg.IndexByteString", "internal/bytealg.Count", "internal/bytealg.Index"], unfollowed := true, recurses := true, named := ["internal/bytealg.MaxLen"], apart := false }
def HuntWordsSaid : Prop := huntWordsRow.holds Try.pinned (OpenSpec.ofChange huntWordsSpec)

/-- ITS FALSE NEIGHBOUR: 'it returns false'. Refute it at one input. -/
def huntWordsWrong : ChangeSpec := { name := "huntWords", fn := fun _ => fun
  | [d1, d2] => { results := [.lit (.bool false)], args := [d1, d2] }
  | _ => none }
def HuntWordsWrongFalsely : Prop := huntWordsRow.holds Try.pinned (OpenSpec.ofChange huntWordsWrong)

/-- 'quoinlaw12.HuntKeeps': WHATEVER THE INPUT: true; the input reads as it did. -/
def huntKeepsSpec : ChangeSpec := { name := "huntKeeps", fn := fun _ => fun
  | [d] => { results := [.lit (.bool true)], args := [d] }
  | _ => none }
def huntKeepsRow : OpenClaim := { program := "ytaakgoojcogbcaa", sum := "d22b3ab745c0e0edb599eba63da58c1e60386816eaf3f5d7e9329e381a00785d", func := "quoin/quoinlaw12.HuntKeeps", spec := "huntKeeps", inPlace := ["internal/bytealg.IndexByte", "internal/bytealg.IndexByteString"], unfollowed := true, recurses := true, apart := false }
def HuntKeepsSaid : Prop := huntKeepsRow.holds Try.pinned (OpenSpec.ofChange huntKeepsSpec)

/-- ITS FALSE NEIGHBOUR: 'it returns false'. Refute it at one input. -/
def huntKeepsWrong : ChangeSpec := { name := "huntKeeps", fn := fun _ => fun
  | [d] => { results := [.lit (.bool false)], args := [d] }
  | _ => none }
def HuntKeepsWrongFalsely : Prop := huntKeepsRow.holds Try.pinned (OpenSpec.ofChange huntKeepsWrong)

/- THE SECOND FORM. 'bulk': how many values and letters a reading holds, each counted each time it is reached (what is shared counts as often as it is met; a slice's spare places count too). A statement '..UptoSaid' is the law's where the arguments, and the package variables that the reading takes, are together of bulk at most 1048576: NARROWER than '..Said'. Prove '..Said' where nothing that the law and all that it calls make is longer than what came in: it says more and counts as full. Else prove '..UptoSaid'. A law counts once. -/
mutual
def uptoBulk {H : Type} : DataW H → Nat
  | .lit (.string bytes) => bytes.length + 1
  | .lit _ => 1
  | .nil => 1
  | .ptr d => uptoBulk d + 1
  | .slice elems spare => uptoBulkAll elems + uptoBulkAll spare + 1
  | .agg parts => uptoBulkAll parts + 1
  | .iface _ d => uptoBulk d + 1
  | .map entries => uptoBulkEntries entries + 1
  | .held _ => 1
def uptoBulkAll {H : Type} : List (DataW H) → Nat
  | [] => 0
  | d :: r => uptoBulk d + uptoBulkAll r
def uptoBulkEntries {H : Type} : List (Lit × DataW H) → Nat
  | [] => 0
  | x :: r => uptoBulkEntry x + uptoBulkEntries r
def uptoBulkEntry {H : Type} : Lit × DataW H → Nat
  | (.string bytes, d) => bytes.length + uptoBulk d + 1
  | (_, d) => uptoBulk d + 1
 end
def uptoSmall : (H : Type) → List (DataW H) → Bool := fun _ ds => decide (uptoBulkAll ds ≤ 1048576)
def OpenSpec.upto (s : _root_.Go.ChangeSpec) : _root_.Go.OpenSpec := { _root_.Go.OpenSpec.ofChange s with cond := some uptoSmall }

/-- 'quoinlaw11.PatternFinds', WHERE WHAT IT READS IS OF BULK AT MOST 1048576: true; the input reads as it did. -/
def patternFindsUptoRow : OpenClaim := { program := "ytaakgoojcogbcaa", sum := "d22b3ab745c0e0edb599eba63da58c1e60386816eaf3f5d7e9329e381a00785d", func := "quoin/quoinlaw11.PatternFinds", spec := "patternFinds", apart := false, narrowed := true }
def PatternFindsUptoSaid : Prop := patternFindsUptoRow.holds Try.pinned (OpenSpec.upto patternFindsSpec)

/-- 'quoinlaw11.PatternAlls', WHERE WHAT IT READS IS OF BULK AT MOST 1048576: true; the input reads as it did. -/
def patternAllsUptoRow : OpenClaim := { program := "ytaakgoojcogbcaa", sum := "d22b3ab745c0e0edb599eba63da58c1e60386816eaf3f5d7e9329e381a00785d", func := "quoin/quoinlaw11.PatternAlls", spec := "patternAlls", apart := false, narrowed := true }
def PatternAllsUptoSaid : Prop := patternAllsUptoRow.holds Try.pinned (OpenSpec.upto patternAllsSpec)

/-- 'quoinlaw12.HuntNexts', WHERE WHAT IT READS IS OF BULK AT MOST 1048576: true; the input reads as it did. -/
def huntNextsUptoRow : OpenClaim := { program := "ytaakgoojcogbcaa", sum := "d22b3ab745c0e0edb599eba63da58c1e60386816eaf3f5d7e9329e381a00785d", func := "quoin/quoinlaw12.HuntNexts", spec := "huntNexts", inPlace := ["internal/bytealg.IndexByte", "internal/bytealg.IndexByteString"], unfollowed := true, recurses := true, apart := false, narrowed := true }
def HuntNextsUptoSaid : Prop := huntNextsUptoRow.holds Try.pinned (OpenSpec.upto huntNextsSpec)

/-- 'quoinlaw12.HuntUnders', WHERE WHAT IT READS IS OF BULK AT MOST 1048576: true; the input reads as it did. -/
def huntUndersUptoRow : OpenClaim := { program := "ytaakgoojcogbcaa", sum := "d22b3ab745c0e0edb599eba63da58c1e60386816eaf3f5d7e9329e381a00785d", func := "quoin/quoinlaw12.HuntUnders", spec := "huntUnders", inPlace := ["internal/bytealg.IndexByte", "internal/bytealg.IndexByteString"], unfollowed := true, recurses := true, apart := false, narrowed := true }
def HuntUndersUptoSaid : Prop := huntUndersUptoRow.holds Try.pinned (OpenSpec.upto huntUndersSpec)

/-- 'quoinlaw12.HuntRounds', WHERE WHAT IT READS IS OF BULK AT MOST 1048576: true; the input reads as it did. -/
def huntRoundsUptoRow : OpenClaim := { program := "ytaakgoojcogbcaa", sum := "d22b3ab745c0e0edb599eba63da58c1e60386816eaf3f5d7e9329e381a00785d", func := "quoin/quoinlaw12.HuntRounds", spec := "huntRounds", inPlace := ["internal/bytealg.IndexByte", "internal/bytealg.IndexByteString"], unfollowed := true, recurses := true, apart := false, narrowed := true }
def HuntRoundsUptoSaid : Prop := huntRoundsUptoRow.holds Try.pinned (OpenSpec.upto huntRoundsSpec)

/-- 'quoinlaw12.HuntRests', WHERE WHAT IT READS IS OF BULK AT MOST 1048576: true; the input reads as it did. -/
def huntRestsUptoRow : OpenClaim := { program := "ytaakgoojcogbcaa", sum := "d22b3ab745c0e0edb599eba63da58c1e60386816eaf3f5d7e9329e381a00785d", func := "quoin/quoinlaw12.HuntRests", spec := "huntRests", inPlace := ["internal/bytealg.IndexByte", "internal/bytealg.IndexByteString", "internal/bytealg.Count", "internal/bytealg.Index"], unfollowed := true, recurses := true, named := ["internal/bytealg.MaxLen"], apart := false, narrowed := true }
def HuntRestsUptoSaid : Prop := huntRestsUptoRow.holds Try.pinned (OpenSpec.upto huntRestsSpec)

/-- 'quoinlaw12.HuntWords', WHERE WHAT IT READS IS OF BULK AT MOST 1048576: true; the input reads as it did. -/
def huntWordsUptoRow : OpenClaim := { program := "ytaakgoojcogbcaa", sum := "d22b3ab745c0e0edb599eba63da58c1e60386816eaf3f5d7e9329e381a00785d", func := "quoin/quoinlaw12.HuntWords", spec := "huntWords", inPlace := ["internal/bytealg.IndexByte", "internal/bytealg.IndexByteString", "internal/bytealg.Count", "internal/bytealg.Index"], unfollowed := true, recurses := true, named := ["internal/bytealg.MaxLen"], apart := false, narrowed := true }
def HuntWordsUptoSaid : Prop := huntWordsUptoRow.holds Try.pinned (OpenSpec.upto huntWordsSpec)

/-- 'quoinlaw12.HuntKeeps', WHERE WHAT IT READS IS OF BULK AT MOST 1048576: true; the input reads as it did. -/
def huntKeepsUptoRow : OpenClaim := { program := "ytaakgoojcogbcaa", sum := "d22b3ab745c0e0edb599eba63da58c1e60386816eaf3f5d7e9329e381a00785d", func := "quoin/quoinlaw12.HuntKeeps", spec := "huntKeeps", inPlace := ["internal/bytealg.IndexByte", "internal/bytealg.IndexByteString"], unfollowed := true, recurses := true, apart := false, narrowed := true }
def HuntKeepsUptoSaid : Prop := huntKeepsUptoRow.holds Try.pinned (OpenSpec.upto huntKeepsSpec)

end Rows
end Go.Proofs.Ytaakgoojcogbcaa
