/-
  No cell of these rows narrows 'for every input' (looked for: loops, veiled, ifaces, maps, wideKeys, modest, calm, conditions, laid).
  DERIVED. THE GIVEN ROWS OF THIS SEAT. 7 by the template 'for every input the law returns true; each argument reads behind the call as it read before'; 0 by the template 'total and deterministic' (their statements: YthklmdnamkjgmaaTotals.lean).
  GIVEN WITH THE SEED: the statements are not yours to turn. If you find one false, say at which input.
  Laid BY PROGRAM, IN A SANDBOX (cutbox-rows.mjs): the forced cells as the released guide's own fill.sh prints them over the translation 8dd27c788248ca7b… (all of the seat's roots in one cut). By AI agents, Wed Nov 11 2026. No macro, syntax, notation, axiom, sorry.
-/
import Derived.Test.YthklmdnamkjgmaaChecked
import GoSem.Claim
import GoSem.ClaimJoined
import GoSem.ClaimMapViews
import Derived.JoinedTies
import Derived.KernelRfl
namespace Go.Proofs.Ythklmdnamkjgmaa
/- THE CELL 'sum', in the pinned program and in every row, IS THE sha256 OF THE DUMP (.gsa) THAT YthklmdnamkjgmaaProg.lean LOADS. Nothing in Lean hashes anything: it is a label: what it is worth is what the hold of that sum in a sandbox is worth. -/
noncomputable def Try.pinned : Pinned := { name := "ythklmdnamkjgmaa", sum := "8dd27c788248ca7b0b2e65e3b4ab0b43333b1d823289a73f674e7f3b50dac340", checked := Try.checked }
namespace Rows
def none {H : Type} : Left H := { results := [], args := [] }

/-- 'quoinlaw17.ChangeApplies': WHATEVER THE INPUT: true; the input reads as it did. -/
def changeAppliesSpec : ChangeSpec := { name := "changeApplies", fn := fun _ => fun
  | [d1, d2] => { results := [.lit (.bool true)], args := [d1, d2] }
  | _ => none }
def changeAppliesRow : OpenClaim := { program := "ythklmdnamkjgmaa", sum := "8dd27c788248ca7b0b2e65e3b4ab0b43333b1d823289a73f674e7f3b50dac340", func := "quoin/quoinlaw17.ChangeApplies", spec := "changeApplies", inPlace := ["slices.overlaps[byte]"], unfollowed := true, recurses := true, apart := false }
def ChangeAppliesSaid : Prop := changeAppliesRow.holds Try.pinned (OpenSpec.ofChange changeAppliesSpec)

/-- ITS FALSE NEIGHBOUR: 'it returns false'. Refute it at one input. -/
def changeAppliesWrong : ChangeSpec := { name := "changeApplies", fn := fun _ => fun
  | [d1, d2] => { results := [.lit (.bool false)], args := [d1, d2] }
  | _ => none }
def ChangeAppliesWrongFalsely : Prop := changeAppliesRow.holds Try.pinned (OpenSpec.ofChange changeAppliesWrong)

/-- 'quoinlaw17.ChangePlain': WHATEVER THE INPUT: true; the input reads as it did. -/
def changePlainSpec : ChangeSpec := { name := "changePlain", fn := fun _ => fun
  | [d1, d2, d3] => { results := [.lit (.bool true)], args := [d1, d2, d3] }
  | _ => none }
def changePlainRow : OpenClaim := { program := "ythklmdnamkjgmaa", sum := "8dd27c788248ca7b0b2e65e3b4ab0b43333b1d823289a73f674e7f3b50dac340", func := "quoin/quoinlaw17.ChangePlain", spec := "changePlain", inPlace := ["slices.overlaps[byte]"], unfollowed := true, recurses := true, apart := false }
def ChangePlainSaid : Prop := changePlainRow.holds Try.pinned (OpenSpec.ofChange changePlainSpec)

/-- ITS FALSE NEIGHBOUR: 'it returns false'. Refute it at one input. -/
def changePlainWrong : ChangeSpec := { name := "changePlain", fn := fun _ => fun
  | [d1, d2, d3] => { results := [.lit (.bool false)], args := [d1, d2, d3] }
  | _ => none }
def ChangePlainWrongFalsely : Prop := changePlainRow.holds Try.pinned (OpenSpec.ofChange changePlainWrong)

/-- 'quoinlaw17.ChangeBack': WHATEVER THE INPUT: true; the input reads as it did. -/
def changeBackSpec : ChangeSpec := { name := "changeBack", fn := fun _ => fun
  | [d1, d2] => { results := [.lit (.bool true)], args := [d1, d2] }
  | _ => none }
def changeBackRow : OpenClaim := { program := "ythklmdnamkjgmaa", sum := "8dd27c788248ca7b0b2e65e3b4ab0b43333b1d823289a73f674e7f3b50dac340", func := "quoin/quoinlaw17.ChangeBack", spec := "changeBack", inPlace := ["slices.overlaps[byte]"], unfollowed := true, recurses := true, apart := false }
def ChangeBackSaid : Prop := changeBackRow.holds Try.pinned (OpenSpec.ofChange changeBackSpec)

/-- ITS FALSE NEIGHBOUR: 'it returns false'. Refute it at one input. -/
def changeBackWrong : ChangeSpec := { name := "changeBack", fn := fun _ => fun
  | [d1, d2] => { results := [.lit (.bool false)], args := [d1, d2] }
  | _ => none }
def ChangeBackWrongFalsely : Prop := changeBackRow.holds Try.pinned (OpenSpec.ofChange changeBackWrong)

/-- 'quoinlaw17.ChangeTrims': WHATEVER THE INPUT: true; the input reads as it did. -/
def changeTrimsSpec : ChangeSpec := { name := "changeTrims", fn := fun _ => fun
  | [d1, d2] => { results := [.lit (.bool true)], args := [d1, d2] }
  | _ => none }
def changeTrimsRow : OpenClaim := { program := "ythklmdnamkjgmaa", sum := "8dd27c788248ca7b0b2e65e3b4ab0b43333b1d823289a73f674e7f3b50dac340", func := "quoin/quoinlaw17.ChangeTrims", spec := "changeTrims", inPlace := ["slices.overlaps[byte]"], unfollowed := true, recurses := true, apart := false }
def ChangeTrimsSaid : Prop := changeTrimsRow.holds Try.pinned (OpenSpec.ofChange changeTrimsSpec)

/-- ITS FALSE NEIGHBOUR: 'it returns false'. Refute it at one input. -/
def changeTrimsWrong : ChangeSpec := { name := "changeTrims", fn := fun _ => fun
  | [d1, d2] => { results := [.lit (.bool false)], args := [d1, d2] }
  | _ => none }
def ChangeTrimsWrongFalsely : Prop := changeTrimsRow.holds Try.pinned (OpenSpec.ofChange changeTrimsWrong)

/-- 'quoinlaw17.ChangeBetween': WHATEVER THE INPUT: true; the input reads as it did. -/
def changeBetweenSpec : ChangeSpec := { name := "changeBetween", fn := fun _ => fun
  | [d1, d2] => { results := [.lit (.bool true)], args := [d1, d2] }
  | _ => none }
def changeBetweenRow : OpenClaim := { program := "ythklmdnamkjgmaa", sum := "8dd27c788248ca7b0b2e65e3b4ab0b43333b1d823289a73f674e7f3b50dac340", func := "quoin/quoinlaw17.ChangeBetween", spec := "changeBetween", inPlace := ["slices.overlaps[byte]"], unfollowed := true, recurses := true, apart := false }
def ChangeBetweenSaid : Prop := changeBetweenRow.holds Try.pinned (OpenSpec.ofChange changeBetweenSpec)

/-- ITS FALSE NEIGHBOUR: 'it returns false'. Refute it at one input. -/
def changeBetweenWrong : ChangeSpec := { name := "changeBetween", fn := fun _ => fun
  | [d1, d2] => { results := [.lit (.bool false)], args := [d1, d2] }
  | _ => none }
def ChangeBetweenWrongFalsely : Prop := changeBetweenRow.holds Try.pinned (OpenSpec.ofChange changeBetweenWrong)

/-- 'quoinlaw17.ChangeTwo': WHATEVER THE INPUT: true; the input reads as it did. -/
def changeTwoSpec : ChangeSpec := { name := "changeTwo", fn := fun _ => fun
  | [d] => { results := [.lit (.bool true)], args := [d] }
  | _ => none }
def changeTwoRow : OpenClaim := { program := "ythklmdnamkjgmaa", sum := "8dd27c788248ca7b0b2e65e3b4ab0b43333b1d823289a73f674e7f3b50dac340", func := "quoin/quoinlaw17.ChangeTwo", spec := "changeTwo", inPlace := ["slices.overlaps[byte]"], unfollowed := true, recurses := true, apart := false }
def ChangeTwoSaid : Prop := changeTwoRow.holds Try.pinned (OpenSpec.ofChange changeTwoSpec)

/-- ITS FALSE NEIGHBOUR: 'it returns false'. Refute it at one input. -/
def changeTwoWrong : ChangeSpec := { name := "changeTwo", fn := fun _ => fun
  | [d] => { results := [.lit (.bool false)], args := [d] }
  | _ => none }
def ChangeTwoWrongFalsely : Prop := changeTwoRow.holds Try.pinned (OpenSpec.ofChange changeTwoWrong)

/-- 'quoinlaw17.ChangeKeeps': WHATEVER THE INPUT: true; the input reads as it did. -/
def changeKeepsSpec : ChangeSpec := { name := "changeKeeps", fn := fun _ => fun
  | [d1, d2] => { results := [.lit (.bool true)], args := [d1, d2] }
  | _ => none }
def changeKeepsRow : OpenClaim := { program := "ythklmdnamkjgmaa", sum := "8dd27c788248ca7b0b2e65e3b4ab0b43333b1d823289a73f674e7f3b50dac340", func := "quoin/quoinlaw17.ChangeKeeps", spec := "changeKeeps", inPlace := ["slices.overlaps[byte]"], unfollowed := true, recurses := true, apart := false }
def ChangeKeepsSaid : Prop := changeKeepsRow.holds Try.pinned (OpenSpec.ofChange changeKeepsSpec)

/-- ITS FALSE NEIGHBOUR: 'it returns false'. Refute it at one input. -/
def changeKeepsWrong : ChangeSpec := { name := "changeKeeps", fn := fun _ => fun
  | [d1, d2] => { results := [.lit (.bool false)], args := [d1, d2] }
  | _ => none }
def ChangeKeepsWrongFalsely : Prop := changeKeepsRow.holds Try.pinned (OpenSpec.ofChange changeKeepsWrong)

/- THE SECOND FORM. 'bulk': how many values and letters a reading holds, each counted each time it is reached (what is shared counts as often as it is met; a slice's spare places count too). A statement '..UptoSaid' is the law's where the arguments, and the package variables that the reading takes, are together of bulk at most 1048576: NARROWER than '..Said'. Prove '..Said' where nothing that the law and all that it calls make is longer than what came in: it says more and counts as full. Else prove '..UptoSaid'. A law counts once. -/
mutual
def uptoBulk {H : Type} : DataW H → Nat
  | .lit (.string bytes) => bytes.length + 1
  | .lit _ => 1
  | .nil => 1
  | .ptr d => uptoBulk d + 1
  | .slice elems spare => uptoBulkAll elems + uptoBulkAll spare + 1
  | .agg parts => uptoBulkAll parts + 1
  | .iface _ d => uptoBulk d + 1
  | .map entries => uptoBulkEntries entries + 1
  | .held _ => 1
def uptoBulkAll {H : Type} : List (DataW H) → Nat
  | [] => 0
  | d :: r => uptoBulk d + uptoBulkAll r
def uptoBulkEntries {H : Type} : List (Lit × DataW H) → Nat
  | [] => 0
  | x :: r => uptoBulkEntry x + uptoBulkEntries r
def uptoBulkEntry {H : Type} : Lit × DataW H → Nat
  | (.string bytes, d) => bytes.length + uptoBulk d + 1
  | (_, d) => uptoBulk d + 1
 end
def uptoSmall : (H : Type) → List (DataW H) → Bool := fun _ ds => decide (uptoBulkAll ds ≤ 1048576)
def OpenSpec.upto (s : _root_.Go.ChangeSpec) : _root_.Go.OpenSpec := { _root_.Go.OpenSpec.ofChange s with cond := some uptoSmall }

/-- 'quoinlaw17.ChangeApplies', WHERE WHAT IT READS IS OF BULK AT MOST 1048576: true; the input reads as it did. -/
def changeAppliesUptoRow : OpenClaim := { program := "ythklmdnamkjgmaa", sum := "8dd27c788248ca7b0b2e65e3b4ab0b43333b1d823289a73f674e7f3b50dac340", func := "quoin/quoinlaw17.ChangeApplies", spec := "changeApplies", inPlace := ["slices.overlaps[byte]"], unfollowed := true, recurses := true, apart := false, narrowed := true }
def ChangeAppliesUptoSaid : Prop := changeAppliesUptoRow.holds Try.pinned (OpenSpec.upto changeAppliesSpec)

/-- 'quoinlaw17.ChangePlain', WHERE WHAT IT READS IS OF BULK AT MOST 1048576: true; the input reads as it did. -/
def changePlainUptoRow : OpenClaim := { program := "ythklmdnamkjgmaa", sum := "8dd27c788248ca7b0b2e65e3b4ab0b43333b1d823289a73f674e7f3b50dac340", func := "quoin/quoinlaw17.ChangePlain", spec := "changePlain", inPlace := ["slices.overlaps[byte]"], unfollowed := true, recurses := true, apart := false, narrowed := true }
def ChangePlainUptoSaid : Prop := changePlainUptoRow.holds Try.pinned (OpenSpec.upto changePlainSpec)

/-- 'quoinlaw17.ChangeBack', WHERE WHAT IT READS IS OF BULK AT MOST 1048576: true; the input reads as it did. -/
def changeBackUptoRow : OpenClaim := { program := "ythklmdnamkjgmaa", sum := "8dd27c788248ca7b0b2e65e3b4ab0b43333b1d823289a73f674e7f3b50dac340", func := "quoin/quoinlaw17.ChangeBack", spec := "changeBack", inPlace := ["slices.overlaps[byte]"], unfollowed := true, recurses := true, apart := false, narrowed := true }
def ChangeBackUptoSaid : Prop := changeBackUptoRow.holds Try.pinned (OpenSpec.upto changeBackSpec)

/-- 'quoinlaw17.ChangeTrims', WHERE WHAT IT READS IS OF BULK AT MOST 1048576: true; the input reads as it did. -/
def changeTrimsUptoRow : OpenClaim := { program := "ythklmdnamkjgmaa", sum := "8dd27c788248ca7b0b2e65e3b4ab0b43333b1d823289a73f674e7f3b50dac340", func := "quoin/quoinlaw17.ChangeTrims", spec := "changeTrims", inPlace := ["slices.overlaps[byte]"], unfollowed := true, recurses := true, apart := false, narrowed := true }
def ChangeTrimsUptoSaid : Prop := changeTrimsUptoRow.holds Try.pinned (OpenSpec.upto changeTrimsSpec)

/-- 'quoinlaw17.ChangeBetween', WHERE WHAT IT READS IS OF BULK AT MOST 1048576: true; the input reads as it did. -/
def changeBetweenUptoRow : OpenClaim := { program := "ythklmdnamkjgmaa", sum := "8dd27c788248ca7b0b2e65e3b4ab0b43333b1d823289a73f674e7f3b50dac340", func := "quoin/quoinlaw17.ChangeBetween", spec := "changeBetween", inPlace := ["slices.overlaps[byte]"], unfollowed := true, recurses := true, apart := false, narrowed := true }
def ChangeBetweenUptoSaid : Prop := changeBetweenUptoRow.holds Try.pinned (OpenSpec.upto changeBetweenSpec)

/-- 'quoinlaw17.ChangeTwo', WHERE WHAT IT READS IS OF BULK AT MOST 1048576: true; the input reads as it did. -/
def changeTwoUptoRow : OpenClaim := { program := "ythklmdnamkjgmaa", sum := "8dd27c788248ca7b0b2e65e3b4ab0b43333b1d823289a73f674e7f3b50dac340", func := "quoin/quoinlaw17.ChangeTwo", spec := "changeTwo", inPlace := ["slices.overlaps[byte]"], unfollowed := true, recurses := true, apart := false, narrowed := true }
def ChangeTwoUptoSaid : Prop := changeTwoUptoRow.holds Try.pinned (OpenSpec.upto changeTwoSpec)

/-- 'quoinlaw17.ChangeKeeps', WHERE WHAT IT READS IS OF BULK AT MOST 1048576: true; the input reads as it did. -/
def changeKeepsUptoRow : OpenClaim := { program := "ythklmdnamkjgmaa", sum := "8dd27c788248ca7b0b2e65e3b4ab0b43333b1d823289a73f674e7f3b50dac340", func := "quoin/quoinlaw17.ChangeKeeps", spec := "changeKeeps", inPlace := ["slices.overlaps[byte]"], unfollowed := true, recurses := true, apart := false, narrowed := true }
def ChangeKeepsUptoSaid : Prop := changeKeepsUptoRow.holds Try.pinned (OpenSpec.upto changeKeepsSpec)

end Rows
end Go.Proofs.Ythklmdnamkjgmaa
