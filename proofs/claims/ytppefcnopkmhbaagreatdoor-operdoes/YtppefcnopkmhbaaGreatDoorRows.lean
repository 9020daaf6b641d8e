/-
  NARROWER THAN 'FOR EVERY INPUT', by the rows' own cells (each row's printed sentence says how): OperDoes: laid · OperPuts: laid · OperSmalls: laid · OperFits: laid.
  DERIVED. THE GIVEN ROWS OF THIS SEAT. 4 by the template 'for every input the law returns true; each argument reads behind the call as it read before'; 0 by the template 'total and deterministic' (their statements: YtppefcnopkmhbaaGreatDoorTotals.lean).
  GIVEN WITH THE SEED: the statements are not yours to turn. If you find one false, say at which input.
  Laid BY PROGRAM, IN A SANDBOX (cutbox-rows.mjs): the forced cells as the released guide's own fill.sh prints them over the translation 737814077e71e67f… (all of the seat's roots in one cut). By AI agents, Wed Nov 11 2026. No macro, syntax, notation, axiom, sorry.
-/
import Derived.Test.YtppefcnopkmhbaaGreatDoorChecked
import GoSem.PinnedTables
import GoSem.Claim
import GoSem.ClaimJoined
import GoSem.ClaimMapViews
import Derived.JoinedTies
import Derived.KernelRfl
namespace Go.Proofs.YtppefcnopkmhbaaGreatDoor
/- THE CELL 'sum', in the pinned program and in every row, IS THE sha256 OF THE DUMP (.gsa) THAT YtppefcnopkmhbaaGreatDoorProg.lean LOADS. Nothing in Lean hashes anything: it is a label: what it is worth is what the hold of that sum in a sandbox is worth. -/
noncomputable def Tryz.pinned : Pinned := { name := "ytppefcnopkmhbaagreatdoor", sum := "737814077e71e67f3ddfd0ecf7f31a29bdb31e9d139c7a9fb1d287a4d488d2f2", checked := Tryz.checked }
namespace Rows
def none {H : Type} : Left H := { results := [], args := [] }

/- WHAT THE LISTED PACKAGE-LEVEL VARIABLES READ AS WHEN THE CALL BEGINS. Each datum BY PROGRAM (the guide's laid-datum.mjs) off the statement by which the dump's own 'gosem.cut.vars' lays the variable. In a bare row this is a premise. The card (YtppefcnopkmhbaaGreatDoorCards.lean) ties it to the program's text. -/
def laid_unicode_utf8_acceptRanges {H : Type} : DataW H := .agg [.agg [.lit (.int .u8 128), .lit (.int .u8 191)], .agg [.lit (.int .u8 160), .lit (.int .u8 191)], .agg [.lit (.int .u8 128), .lit (.int .u8 159)], .agg [.lit (.int .u8 144), .lit (.int .u8 191)], .agg [.lit (.int .u8 128), .lit (.int .u8 143)], .agg [.lit (.int .u8 0), .lit (.int .u8 0)], .agg [.lit (.int .u8 0), .lit (.int .u8 0)], .agg [.lit (.int .u8 0), .lit (.int .u8 0)], .agg [.lit (.int .u8 0), .lit (.int .u8 0)], .agg [.lit (.int .u8 0), .lit (.int .u8 0)], .agg [.lit (.int .u8 0), .lit (.int .u8 0)], .agg [.lit (.int .u8 0), .lit (.int .u8 0)], .agg [.lit (.int .u8 0), .lit (.int .u8 0)], .agg [.lit (.int .u8 0), .lit (.int .u8 0)], .agg [.lit (.int .u8 0), .lit (.int .u8 0)], .agg [.lit (.int .u8 0), .lit (.int .u8 0)]]
/-- One of Go's own tables, pinned by name: the form's constant. -/
def laid_unicode_utf8_first : DataW Unit := Go.Pinned.utf8First

/-- 'quoinlaw19.OperDoes': WHATEVER THE INPUT: true; the input reads as it did. -/
def operDoesSpec : ChangeSpec := { name := "operDoes", fn := fun _ => fun
  | [d1, d2] => { results := [.lit (.bool true)], args := [d1, d2] }
  | _ => none }
def operDoesRow : OpenClaim := { program := "ytppefcnopkmhbaagreatdoor", sum := "737814077e71e67f3ddfd0ecf7f31a29bdb31e9d139c7a9fb1d287a4d488d2f2", func := "quoin/quoinlaw19.OperDoes", spec := "operDoes", inPlace := ["internal/bytealg.IndexByte", "internal/bytealg.Index", "slices.overlaps[byte]", "internal/bytealg.Count", "internal/bytealg.MakeNoZero"], unfollowed := true, recurses := true, named := ["internal/bytealg.MaxLen", "unicode/utf8.first", "unicode/utf8.acceptRanges"], apart := false, laid := [("unicode/utf8.acceptRanges", laid_unicode_utf8_acceptRanges), ("unicode/utf8.first", laid_unicode_utf8_first)] }
def OperDoesSaid : Prop := operDoesRow.holds Tryz.pinned (OpenSpec.ofChange operDoesSpec)

/-- ITS FALSE NEIGHBOUR: 'it returns false'. Refute it at one input. -/
def operDoesWrong : ChangeSpec := { name := "operDoes", fn := fun _ => fun
  | [d1, d2] => { results := [.lit (.bool false)], args := [d1, d2] }
  | _ => none }
def OperDoesWrongFalsely : Prop := operDoesRow.holds Tryz.pinned (OpenSpec.ofChange operDoesWrong)

/-- 'quoinlaw19.OperPuts': WHATEVER THE INPUT: true; the input reads as it did. -/
def operPutsSpec : ChangeSpec := { name := "operPuts", fn := fun _ => fun
  | [d1, d2] => { results := [.lit (.bool true)], args := [d1, d2] }
  | _ => none }
def operPutsRow : OpenClaim := { program := "ytppefcnopkmhbaagreatdoor", sum := "737814077e71e67f3ddfd0ecf7f31a29bdb31e9d139c7a9fb1d287a4d488d2f2", func := "quoin/quoinlaw19.OperPuts", spec := "operPuts", inPlace := ["internal/bytealg.IndexByte", "internal/bytealg.Index", "slices.overlaps[byte]", "internal/bytealg.Count", "internal/bytealg.MakeNoZero"], unfollowed := true, recurses := true, named := ["internal/bytealg.MaxLen", "unicode/utf8.first", "unicode/utf8.acceptRanges"], apart := false, laid := [("unicode/utf8.acceptRanges", laid_unicode_utf8_acceptRanges), ("unicode/utf8.first", laid_unicode_utf8_first)] }
def OperPutsSaid : Prop := operPutsRow.holds Tryz.pinned (OpenSpec.ofChange operPutsSpec)

/-- ITS FALSE NEIGHBOUR: 'it returns false'. Refute it at one input. -/
def operPutsWrong : ChangeSpec := { name := "operPuts", fn := fun _ => fun
  | [d1, d2] => { results := [.lit (.bool false)], args := [d1, d2] }
  | _ => none }
def OperPutsWrongFalsely : Prop := operPutsRow.holds Tryz.pinned (OpenSpec.ofChange operPutsWrong)

/-- 'quoinlaw19.OperSmalls': WHATEVER THE INPUT: true; the input reads as it did. -/
def operSmallsSpec : ChangeSpec := { name := "operSmalls", fn := fun _ => fun
  | [d1, d2] => { results := [.lit (.bool true)], args := [d1, d2] }
  | _ => none }
def operSmallsRow : OpenClaim := { program := "ytppefcnopkmhbaagreatdoor", sum := "737814077e71e67f3ddfd0ecf7f31a29bdb31e9d139c7a9fb1d287a4d488d2f2", func := "quoin/quoinlaw19.OperSmalls", spec := "operSmalls", inPlace := ["internal/bytealg.IndexByte", "internal/bytealg.Index", "slices.overlaps[byte]", "internal/bytealg.Count", "internal/bytealg.MakeNoZero"], unfollowed := true, recurses := true, named := ["internal/bytealg.MaxLen", "unicode/utf8.first", "unicode/utf8.acceptRanges"], apart := false, laid := [("unicode/utf8.acceptRanges", laid_unicode_utf8_acceptRanges), ("unicode/utf8.first", laid_unicode_utf8_first)] }
def OperSmallsSaid : Prop := operSmallsRow.holds Tryz.pinned (OpenSpec.ofChange operSmallsSpec)

/-- ITS FALSE NEIGHBOUR: 'it returns false'. Refute it at one input. -/
def operSmallsWrong : ChangeSpec := { name := "operSmalls", fn := fun _ => fun
  | [d1, d2] => { results := [.lit (.bool false)], args := [d1, d2] }
  | _ => none }
def OperSmallsWrongFalsely : Prop := operSmallsRow.holds Tryz.pinned (OpenSpec.ofChange operSmallsWrong)

/-- 'quoinlaw19.OperFits': WHATEVER THE INPUT: true; the input reads as it did. -/
def operFitsSpec : ChangeSpec := { name := "operFits", fn := fun _ => fun
  | [d1, d2] => { results := [.lit (.bool true)], args := [d1, d2] }
  | _ => none }
def operFitsRow : OpenClaim := { program := "ytppefcnopkmhbaagreatdoor", sum := "737814077e71e67f3ddfd0ecf7f31a29bdb31e9d139c7a9fb1d287a4d488d2f2", func := "quoin/quoinlaw19.OperFits", spec := "operFits", inPlace := ["internal/bytealg.IndexByte", "internal/bytealg.Index", "slices.overlaps[byte]", "internal/bytealg.Count", "internal/bytealg.MakeNoZero"], unfollowed := true, recurses := true, named := ["internal/bytealg.MaxLen", "unicode/utf8.first", "unicode/utf8.acceptRanges"], apart := false, laid := [("unicode/utf8.acceptRanges", laid_unicode_utf8_acceptRanges), ("unicode/utf8.first", laid_unicode_utf8_first)] }
def OperFitsSaid : Prop := operFitsRow.holds Tryz.pinned (OpenSpec.ofChange operFitsSpec)

/-- ITS FALSE NEIGHBOUR: 'it returns false'. Refute it at one input. -/
def operFitsWrong : ChangeSpec := { name := "operFits", fn := fun _ => fun
  | [d1, d2] => { results := [.lit (.bool false)], args := [d1, d2] }
  | _ => none }
def OperFitsWrongFalsely : Prop := operFitsRow.holds Tryz.pinned (OpenSpec.ofChange operFitsWrong)

/- THE SECOND FORM. 'bulk': how many values and letters a reading holds, each counted each time it is reached (what is shared counts as often as it is met; a slice's spare places count too). A statement '..UptoSaid' is the law's where the arguments, and the package variables that the reading takes, are together of bulk at most 1048576: NARROWER than '..Said'. Prove '..Said' where nothing that the law and all that it calls make is longer than what came in: it says more and counts as full. Else prove '..UptoSaid'. A law counts once. -/
mutual
def uptoBulk {H : Type} : DataW H → Nat
  | .lit (.string bytes) => bytes.length + 1
  | .lit _ => 1
  | .nil => 1
  | .ptr d => uptoBulk d + 1
  | .slice elems spare => uptoBulkAll elems + uptoBulkAll spare + 1
  | .agg parts => uptoBulkAll parts + 1
  | .iface _ d => uptoBulk d + 1
  | .map entries => uptoBulkEntries entries + 1
  | .held _ => 1
def uptoBulkAll {H : Type} : List (DataW H) → Nat
  | [] => 0
  | d :: r => uptoBulk d + uptoBulkAll r
def uptoBulkEntries {H : Type} : List (Lit × DataW H) → Nat
  | [] => 0
  | x :: r => uptoBulkEntry x + uptoBulkEntries r
def uptoBulkEntry {H : Type} : Lit × DataW H → Nat
  | (.string bytes, d) => bytes.length + uptoBulk d + 1
  | (_, d) => uptoBulk d + 1
 end
def uptoSmall : (H : Type) → List (DataW H) → Bool := fun _ ds => decide (uptoBulkAll ds ≤ 1048576)
def OpenSpec.upto (s : _root_.Go.ChangeSpec) : _root_.Go.OpenSpec := { _root_.Go.OpenSpec.ofChange s with cond := some uptoSmall }

/-- 'quoinlaw19.OperDoes', WHERE WHAT IT READS IS OF BULK AT MOST 1048576: true; the input reads as it did. -/
def operDoesUptoRow : OpenClaim := { program := "ytppefcnopkmhbaagreatdoor", sum := "737814077e71e67f3ddfd0ecf7f31a29bdb31e9d139c7a9fb1d287a4d488d2f2", func := "quoin/quoinlaw19.OperDoes", spec := "operDoes", inPlace := ["internal/bytealg.IndexByte", "internal/bytealg.Index", "slices.overlaps[byte]", "internal/bytealg.Count", "internal/bytealg.MakeNoZero"], unfollowed := true, recurses := true, named := ["internal/bytealg.MaxLen", "unicode/utf8.first", "unicode/utf8.acceptRanges"], apart := false, laid := [("unicode/utf8.acceptRanges", laid_unicode_utf8_acceptRanges), ("unicode/utf8.first", laid_unicode_utf8_first)], narrowed := true }
def OperDoesUptoSaid : Prop := operDoesUptoRow.holds Tryz.pinned (OpenSpec.upto operDoesSpec)

/-- 'quoinlaw19.OperPuts', WHERE WHAT IT READS IS OF BULK AT MOST 1048576: true; the input reads as it did. -/
def operPutsUptoRow : OpenClaim := { program := "ytppefcnopkmhbaagreatdoor", sum := "737814077e71e67f3ddfd0ecf7f31a29bdb31e9d139c7a9fb1d287a4d488d2f2", func := "quoin/quoinlaw19.OperPuts", spec := "operPuts", inPlace := ["internal/bytealg.IndexByte", "internal/bytealg.Index", "slices.overlaps[byte]", "internal/bytealg.Count", "internal/bytealg.MakeNoZero"], unfollowed := true, recurses := true, named := ["internal/bytealg.MaxLen", "unicode/utf8.first", "unicode/utf8.acceptRanges"], apart := false, laid := [("unicode/utf8.acceptRanges", laid_unicode_utf8_acceptRanges), ("unicode/utf8.first", laid_unicode_utf8_first)], narrowed := true }
def OperPutsUptoSaid : Prop := operPutsUptoRow.holds Tryz.pinned (OpenSpec.upto operPutsSpec)

/-- 'quoinlaw19.OperSmalls', WHERE WHAT IT READS IS OF BULK AT MOST 1048576: true; the input reads as it did. -/
def operSmallsUptoRow : OpenClaim := { program := "ytppefcnopkmhbaagreatdoor", sum := "737814077e71e67f3ddfd0ecf7f31a29bdb31e9d139c7a9fb1d287a4d488d2f2", func := "quoin/quoinlaw19.OperSmalls", spec := "operSmalls", inPlace := ["internal/bytealg.IndexByte", "internal/bytealg.Index", "slices.overlaps[byte]", "internal/bytealg.Count", "internal/bytealg.MakeNoZero"], unfollowed := true, recurses := true, named := ["internal/bytealg.MaxLen", "unicode/utf8.first", "unicode/utf8.acceptRanges"], apart := false, laid := [("unicode/utf8.acceptRanges", laid_unicode_utf8_acceptRanges), ("unicode/utf8.first", laid_unicode_utf8_first)], narrowed := true }
def OperSmallsUptoSaid : Prop := operSmallsUptoRow.holds Tryz.pinned (OpenSpec.upto operSmallsSpec)

/-- 'quoinlaw19.OperFits', WHERE WHAT IT READS IS OF BULK AT MOST 1048576: true; the input reads as it did. -/
def operFitsUptoRow : OpenClaim := { program := "ytppefcnopkmhbaagreatdoor", sum := "737814077e71e67f3ddfd0ecf7f31a29bdb31e9d139c7a9fb1d287a4d488d2f2", func := "quoin/quoinlaw19.OperFits", spec := "operFits", inPlace := ["internal/bytealg.IndexByte", "internal/bytealg.Index", "slices.overlaps[byte]", "internal/bytealg.Count", "internal/bytealg.MakeNoZero"], unfollowed := true, recurses := true, named := ["internal/bytealg.MaxLen", "unicode/utf8.first", "unicode/utf8.acceptRanges"], apart := false, laid := [("unicode/utf8.acceptRanges", laid_unicode_utf8_acceptRanges), ("unicode/utf8.first", laid_unicode_utf8_first)], narrowed := true }
def OperFitsUptoSaid : Prop := operFitsUptoRow.holds Tryz.pinned (OpenSpec.upto operFitsSpec)

end Rows
end Go.Proofs.YtppefcnopkmhbaaGreatDoor
