/- The law SheetNil, walked: at any number and any list it answers true and turns nothing. -/
import Derived.Test.YtpifjghhlcjedaaAw
namespace Go.Proofs.Ytpifjghhlcjedaa
open Go.RowKit

theorem Pieces_nil (w : World) : Calls Try.prog 31 #[.pointer none] w fun e w' => ∃ ao cap, e = .returned (.slice ao 0 cap) ∧ Below w.heap.size w w' :=
  (Pieces_any none none 0 (Tr.mk none) w (nilT w) (nilA w) (by simp [Tr.size])).mono fun _ _ ⟨ao, cap, h1, _, h3⟩ => ⟨ao, cap, h1, h3⟩
theorem Rows_nil (w : World) : Calls Try.prog 30 #[.pointer none] w fun e w' => ∃ ao cap, e = .returned (.slice ao 0 cap) ∧ Below w.heap.size w w' :=
  (sRows_any none none 0 (Tr.mk none) w (nilT w) (nilA w) (show (Tr.mk none).size ≤ 2097152 by simp [Tr.size])).mono fun _ _ ⟨ao, cap, h1, _, h3⟩ => ⟨ao, cap, h1, h3⟩

theorem bT {w a b : World} (h : Below w.heap.size w a) (g : Below a.heap.size a b) : Below w.heap.size w b := h.trans (g.mono h.size)

set_option maxHeartbeats 4000000 in
theorem sheetNil_any (x : Int) (v : Value) (w : World) : Calls Try.prog 8 #[.int .i64 x, v] w fun e w' => e = .returned (.bool true) ∧ Below w.heap.size w w' := by
  have HA := hid awake_any
  have HI := hid Insert_nil
  have HD := hid Delete_nil
  have HY := hid Apply_nil
  have HB := hid Bytes_nil
  have HL := hid Len_nil
  have HN := hid Lines_nil
  have HE := hid edits_nil
  have HP := hid Pieces_nil
  have HR := hid Rows_nil
  have HS := hid Slice_nil
  have H0 := hid Start_nil0
  have H1 := hid Start_nil1
  have K0 := hid LineOf_nil0
  have K1 := hid LineOf_nil1
  have HY0 := hid Byte_nil
  go_enter Try.func8, Try.ntmps8
  go_wp2_with (first
    | (go_at_call 25; refine (HA.out _).mono ?_; rintro e w1 ⟨rfl, b1⟩)
    | (go_at_call 41; refine (HI.out _ _ _).mono ?_; rintro e w2 ⟨rfl, b2⟩)
    | (go_at_call 42; refine (HD.out _ _ _).mono ?_; rintro e w3 ⟨rfl, b3⟩)
    | (go_at_call 46; refine (HY.out _ _).mono ?_; rintro e w4 ⟨rfl, b4⟩)
    | (go_at_call 33; refine (HB.out _).mono ?_; rintro e w5 ⟨rfl, b5⟩)
    | (go_at_call 34; refine (HL.out _).mono ?_; rintro e w6 ⟨rfl, b6⟩)
    | (go_at_call 35; refine (HN.out _).mono ?_; rintro e w7 ⟨rfl, b7⟩)
    | (go_at_call 38; refine (HE.out _).mono ?_; rintro e w8 ⟨rfl, b8⟩)
    | (go_at_call 31; refine (HP.out _).mono ?_; rintro e w9 ⟨a9, c9, rfl, b9⟩)
    | (go_at_call 30; refine (HR.out _).mono ?_; rintro e w10 ⟨a10, c10, rfl, b10⟩)
    | (go_at_call 44; refine (HS.out _).mono ?_; rintro e w11 ⟨rfl, b11⟩)
    | (go_at_call_of 47 (Value.int IntKind.i64 0); refine (H0.out _).mono ?_; rintro e w12 ⟨rfl, b12⟩)
    | (go_at_call 47; refine (H1.out _).mono ?_; rintro e w13 ⟨rfl, b13⟩)
    | (go_at_call_of 48 (Value.int IntKind.i64 0); refine (K0.out _).mono ?_; rintro e w14 ⟨rfl, b14⟩)
    | (go_at_call 49; refine (HY0.out _).mono ?_; rintro e w15 ⟨rfl, b15⟩)
    | (go_at_call 48; refine (K1.out _).mono ?_; rintro e w16 ⟨rfl, b16⟩))
  go_ret
  exact ⟨rfl, bT (bT (bT (bT (bT (bT (bT (bT (bT (bT (bT (bT (bT (bT (bT b1 b2) b3) b4) b5) b6) b7) b8) b9) b10) b11) b12) b13) b14) b15) b16⟩

end Go.Proofs.Ytpifjghhlcjedaa
