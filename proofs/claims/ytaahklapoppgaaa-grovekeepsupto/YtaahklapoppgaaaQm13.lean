/- Values of many cells built. -/
import Derived.Test.YtaahklapoppgaaaQm11
namespace Go.Proofs.Ytaahklapoppgaaa
open Go.RowKit

set_option maxRecDepth 20000
theorem list27 {L : List Int} (h : L.length = 27) : ∃ a0 a1 a2 a3 a4 a5 a6 a7 a8 a9 a10 a11 a12 a13 a14 a15 a16 a17 a18 a19 a20 a21 a22 a23 a24 a25 a26, L = [a0, a1, a2, a3, a4, a5, a6, a7, a8, a9, a10, a11, a12, a13, a14, a15, a16, a17, a18, a19, a20, a21, a22, a23, a24, a25, a26] := by
  match L, h with
  | [a0, a1, a2, a3, a4, a5, a6, a7, a8, a9, a10, a11, a12, a13, a14, a15, a16, a17, a18, a19, a20, a21, a22, a23, a24, a25, a26], _ => exact ⟨_, _, _, _, _, _, _, _, _, _, _, _, _, _, _, _, _, _, _, _, _, _, _, _, _, _, _, rfl⟩
theorem b63 (w : World) (p c : Int) (ea : Option Addr) (en ec : Nat) (E : List Er) {A M : List Int} (hA : A.length = 27) (hM : M.length = 27) :
    (Instr.build 63 #[(0, .int .i64 p), (2, .slice ea en ec), (3, .int .i64 c), (4, .agg (mk A)), (5, .agg (mk M))]).run Try.prog w = .ok (.agg (nd ⟨p, 0, ea, en, ec, E, c, A, M⟩)) w := by
  obtain ⟨a0, a1, a2, a3, a4, a5, a6, a7, a8, a9, a10, a11, a12, a13, a14, a15, a16, a17, a18, a19, a20, a21, a22, a23, a24, a25, a26, rfl⟩ := list27 hA
  obtain ⟨b0, b1, b2, b3, b4, b5, b6, b7, b8, b9, b10, b11, b12, b13, b14, b15, b16, b17, b18, b19, b20, b21, b22, b23, b24, b25, b26, rfl⟩ := list27 hM
  kernel_rfl
theorem bs22 (w : World) (r : Nr) (hA : r.was.length = 27) (hM : r.made.length = 27) :
    (Instr.buildSlice 22 1 #[(0, .agg (nd r))]).run Try.prog w = .ok (.slice (some ⟨w.heap.size, 0, none⟩) 1 1) (w.alloc (.cells (nd r) 63)) := by
  obtain ⟨p, n, ea, en, ec, E, c, A, M⟩ := r
  dsimp only at hA hM
  obtain ⟨a0, a1, a2, a3, a4, a5, a6, a7, a8, a9, a10, a11, a12, a13, a14, a15, a16, a17, a18, a19, a20, a21, a22, a23, a24, a25, a26, rfl⟩ := list27 hA
  obtain ⟨b0, b1, b2, b3, b4, b5, b6, b7, b8, b9, b10, b11, b12, b13, b14, b15, b16, b17, b18, b19, b20, b21, b22, b23, b24, b25, b26, rfl⟩ := list27 hM
  kernel_rfl
theorem b50a (w : World) {A : List Int} (hA : A.length = 27) : (Instr.build 50 #[(2, .agg (mk A))]).run Try.prog w = .ok (.agg (cxa (.slice none 0 0) 0 A)) w := by
  obtain ⟨a0, a1, a2, a3, a4, a5, a6, a7, a8, a9, a10, a11, a12, a13, a14, a15, a16, a17, a18, a19, a20, a21, a22, a23, a24, a25, a26, rfl⟩ := list27 hA
  kernel_rfl
theorem b50b (w : World) (a : Option Addr) (n k : Nat) (c : Int) {A : List Int} (hA : A.length = 27) : (Instr.build 50 #[(0, .slice a n k), (1, .int .i64 c), (2, .agg (mk A))]).run Try.prog w = .ok (.agg (cxa (.slice a n k) c A)) w := by
  obtain ⟨a0, a1, a2, a3, a4, a5, a6, a7, a8, a9, a10, a11, a12, a13, a14, a15, a16, a17, a18, a19, a20, a21, a22, a23, a24, a25, a26, rfl⟩ := list27 hA
  kernel_rfl
theorem b100 (w : World) (a p : Option Addr) (n k m q : Nat) (now c : Int) {A : List Int} (hA : A.length = 27) : (Instr.build 100 #[(0, .agg #[.slice a n k, .int .i64 now]), (1, .agg (cxa (.slice p m q) c A))]).run Try.prog w = .ok (.agg (wca a n k now (.slice p m q) c A)) w := by
  obtain ⟨a0, a1, a2, a3, a4, a5, a6, a7, a8, a9, a10, a11, a12, a13, a14, a15, a16, a17, a18, a19, a20, a21, a22, a23, a24, a25, a26, rfl⟩ := list27 hA
  kernel_rfl
end Go.Proofs.Ytaahklapoppgaaa

