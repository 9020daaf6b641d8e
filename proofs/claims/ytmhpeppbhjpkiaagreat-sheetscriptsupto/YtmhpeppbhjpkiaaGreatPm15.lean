/- A sheet's Insert, and what a nil sheet answers. -/
import Derived.Test.YtmhpeppbhjpkiaaGreatPm14
namespace Go.Proofs.YtmhpeppbhjpkiaaGreat
open Go.RowKit

set_option maxHeartbeats 1000000 in
theorem Insert_some (sb bb : Nat) (vo va : Value) (O A : List UInt8) (t : Tr) (a : Option Addr) (e : Int) (base : Nat) (ad : Addr) (c : Nat) (l : List UInt8) (off : Int) (w : World)
    (hSh : Hid (Sh w base sb bb vo va O A t a e)) (hw : Hid t.whole) (hg : Hid (Gds O A t.list)) (hz : Hid ((txt O A t.list).length + l.length ≤ 1048575)) (hA : Hid (A.length + l.length ≤ 1048576)) (hv : Hid (Ab.Rd w (.slice (some ad) l.length c) l)) (hl : ((l.length : Int) == 0) = false)
    (h0 : 0 ≤ off) (h1 : off ≤ t.byt) (he : 0 ≤ e ∧ e ≤ 4611686018427387904) :
    Calls Tryz.prog 13 #[.pointer (some ⟨sb, 0, none⟩), .int .i64 off, .slice (some ad) l.length c] w fun e' w' => e' = .returned (.int .i64 0) ∧ ∃ w1, Below w.heap.size w w1 ∧ PutGave w1 base sb bb vo va O A l t off e w' := by
  have hr : decide (0 ≤ off ∧ off ≤ off ∧ off ≤ t.byt) = true := by simp; omega
  have HR := hid (fun W (hW : Below w.heap.size w W) => hasRange_any (some ⟨sb, 0, none⟩) a e t off off W (hSh.out.keep hW).sht (hSh.out.tree.keep hW))
  rw [hr] at HR
  have HP := hid (fun W (hW : Below w.heap.size w W) => putIn_some sb bb vo va O A t a e base ad c l off W (hSh.out.keep hW) hw hg hz hA (hv.out.keep hW) hl h0 h1 he)
  go_enter Tryz.func13, Tryz.ntmps13
  go_wp2_with (first
    | (go_at_call 42; refine (HR.out _ (Below.refl _ _)).mono ?_; rintro e9 w9 ⟨rfl, hb9⟩)
    | (go_at_call 43; refine (HP.out _ hb9).mono ?_; rintro e8 w8 ⟨⟨r8, rfl⟩, hp8⟩; have H8 := hid hp8; clear hp8))
  go_ret
  exact ⟨rfl, w9, hb9, H8.out⟩

set_option maxHeartbeats 400000 in
theorem Insert_nil (x v : Value) (w : World) : Calls Tryz.prog 13 #[.pointer none, x, v] w fun e w' => e = .returned (.int .i64 2) ∧ Below w.heap.size w w' := by
  go_enter Tryz.func13, Tryz.ntmps13
  go_wp2
  go_ret
  exact ⟨rfl, Below.refl _ _⟩
set_option maxHeartbeats 400000 in
theorem Delete_nil (x v : Value) (w : World) : Calls Tryz.prog 34 #[.pointer none, x, v] w fun e w' => e = .returned (.int .i64 2) ∧ Below w.heap.size w w' := by
  go_enter Tryz.func34, Tryz.ntmps34
  go_wp2
  go_ret
  exact ⟨rfl, Below.refl _ _⟩
set_option maxHeartbeats 400000 in
theorem Apply_nil (v : Value) (w : World) : Calls Tryz.prog 37 #[.pointer none, v] w fun e w' => e = .returned (.int .i64 2) ∧ Below w.heap.size w w' := by
  go_enter Tryz.func37, Tryz.ntmps37
  go_wp2
  go_ret
  exact ⟨rfl, Below.refl _ _⟩

set_option maxHeartbeats 400000 in
theorem read_none (p : Option Addr) (x : Int) (w : World) : Calls Tryz.prog 44 #[.pointer p, .int .i64 x, .int .i64 x] w fun e w' => e = .returned (.slice none 0 0) ∧ Below w.heap.size w w' := by
  go_enter Tryz.func44, Tryz.ntmps44
  go_wp2
  go_ret
  exact ⟨rfl, bAAA w _ _ _⟩

theorem nilT (w : World) : ShT w none none 0 := .inl ⟨rfl, rfl, rfl⟩
theorem nilA (w : World) : At w (Tr.mk none) none := rfl

theorem Len_nil (w : World) : Calls Tryz.prog 39 #[.pointer none] w fun e w' => e = .returned (.int .i64 0) ∧ Below w.heap.size w w' := sLen_any none none 0 (Tr.mk none) w (nilT w) (nilA w)
theorem Lines_nil (w : World) : Calls Tryz.prog 30 #[.pointer none] w fun e w' => e = .returned (.int .i64 1) ∧ Below w.heap.size w w' := by
  have := sLines_any none none 0 (Tr.mk none) w (nilT w) (nilA w) (by simp [Tr.lin]) (by simp [Tr.lin])
  simpa [Tr.lin] using this
theorem Range_nil (x y : Int) (w : World) : Calls Tryz.prog 42 #[.pointer none, .int .i64 x, .int .i64 y] w fun e w' => e = .returned (.bool (decide (0 ≤ x ∧ x ≤ y ∧ y ≤ 0))) ∧ Below w.heap.size w w' := hasRange_any none none 0 (Tr.mk none) x y w (nilT w) (nilA w)
theorem Find_nil (m : Int) (w : World) : Calls Tryz.prog 59 #[.agg #[.pointer none], .int .i64 m] w fun e w' => e = .returned (.tuple #[.int .i64 0, .int .i64 0, .bool false]) ∧ Below w.heap.size w w' :=
  Find52_no (Tr.mk none) none m w (by simp only [Tr.byt]; omega) (nilA w)

set_option maxHeartbeats 400000 in
theorem Bytes_nil (w : World) : Calls Tryz.prog 14 #[.pointer none] w fun e w' => e = .returned (.slice none 0 0) ∧ Below w.heap.size w w' := by
  go_enter Tryz.func14, Tryz.ntmps14
  go_wp2_with (first | (go_at_call 39; refine (Len_nil _).mono ?_; rintro e w9 ⟨rfl, hb9⟩) | (go_at_call 44; refine (read_none none 0 _).mono ?_; rintro e w8 ⟨rfl, hb8⟩))
  go_ret
  exact ⟨rfl, hb9.trans (hb8.mono hb9.size)⟩

set_option maxHeartbeats 400000 in
theorem Slice_nil (w : World) : Calls Tryz.prog 25 #[.pointer none, .int .i64 0, .int .i64 0] w fun e w' => e = .returned (.tuple #[.slice none 0 0, .int .i64 0]) ∧ Below w.heap.size w w' := by
  have hd : decide ((0 : Int) ≤ 0 ∧ (0 : Int) ≤ 0 ∧ (0 : Int) ≤ 0) = true := by simp
  have HR := hid (Range_nil 0 0)
  rw [hd] at HR
  go_enter Tryz.func25, Tryz.ntmps25
  go_wp2_with (first | (go_at_call 42; refine (HR.out _).mono ?_; rintro e w9 ⟨rfl, hb9⟩) | (go_at_call 44; refine (read_none none 0 _).mono ?_; rintro e w8 ⟨rfl, hb8⟩))
  exact bodyPost_ret (v := .tuple #[.slice none 0 0, .int .i64 0]) (by simp [results, Tryz.results25, go_sem]) rfl ⟨rfl, hb9.trans (hb8.mono hb9.size)⟩

set_option maxHeartbeats 400000 in
theorem Start_nil0 (w : World) : Calls Tryz.prog 29 #[.pointer none, .int .i64 0] w fun e w' => e = .returned (.tuple #[.int .i64 0, .int .i64 0]) ∧ Below w.heap.size w w' := by
  go_enter Tryz.func29, Tryz.ntmps29
  go_wp2
  exact bodyPost_ret (v := .tuple #[.int .i64 0, .int .i64 0]) (by simp [results, Tryz.results29, go_sem]) rfl ⟨rfl, Below.refl _ _⟩

set_option maxHeartbeats 400000 in
theorem Start_nil1 (w : World) : Calls Tryz.prog 29 #[.pointer none, .int .i64 1] w fun e w' => e = .returned (.tuple #[.int .i64 0, .int .i64 2]) ∧ Below w.heap.size w w' := by
  go_enter Tryz.func29, Tryz.ntmps29
  go_wp2_with (go_at_call 30; refine (Lines_nil _).mono ?_; rintro e w9 ⟨rfl, hb9⟩)
  exact bodyPost_ret (v := .tuple #[.int .i64 0, .int .i64 2]) (by simp [results, Tryz.results29, go_sem]) rfl ⟨rfl, hb9⟩

set_option maxHeartbeats 400000 in
theorem LineOf_nil0 (w : World) : Calls Tryz.prog 31 #[.pointer none, .int .i64 0] w fun e w' => e = .returned (.tuple #[.int .i64 0, .int .i64 0]) ∧ Below w.heap.size w w' := by
  have hd : decide ((0 : Int) ≤ 0 ∧ (0 : Int) ≤ 0 ∧ (0 : Int) ≤ 0) = true := by simp
  have HR := hid (Range_nil 0 0)
  rw [hd] at HR
  go_enter Tryz.func31, Tryz.ntmps31
  go_wp2_with (first | (go_at_call 42; refine (HR.out _).mono ?_; rintro e w9 ⟨rfl, hb9⟩) | (go_at_call 45; refine (shTree_any none none 0 _ (nilT _)).mono ?_; rintro e w8 ⟨rfl, hb8⟩) | (go_at_call 59; refine (Find_nil 0 _).mono ?_; rintro e w7 ⟨rfl, hb7⟩) | (go_at_call 30; refine (Lines_nil _).mono ?_; rintro e w6 ⟨rfl, hb6⟩))
  have h1 := hb9.trans (hb8.mono hb9.size)
  have h2 := h1.trans (hb7.mono h1.size)
  exact bodyPost_ret (v := .tuple #[.int .i64 0, .int .i64 0]) (by simp [results, Tryz.results31, go_sem]) rfl ⟨rfl, h2.trans (hb6.mono h2.size)⟩

set_option maxHeartbeats 400000 in
theorem LineOf_nil1 (w : World) : Calls Tryz.prog 31 #[.pointer none, .int .i64 1] w fun e w' => e = .returned (.tuple #[.int .i64 0, .int .i64 30]) ∧ Below w.heap.size w w' := by
  have hd : decide ((0 : Int) ≤ 1 ∧ (1 : Int) ≤ 1 ∧ (1 : Int) ≤ 0) = false := by simp
  have HR := hid (Range_nil 1 1)
  rw [hd] at HR
  go_enter Tryz.func31, Tryz.ntmps31
  go_wp2_with (go_at_call 42; refine (HR.out _).mono ?_; rintro e w9 ⟨rfl, hb9⟩)
  exact bodyPost_ret (v := .tuple #[.int .i64 0, .int .i64 30]) (by simp [results, Tryz.results31, go_sem]) rfl ⟨rfl, hb9⟩

set_option maxHeartbeats 400000 in
theorem Byte_nil (w : World) : Calls Tryz.prog 27 #[.pointer none, .int .i64 0] w fun e w' => e = .returned (.tuple #[.int .u8 0, .int .i64 30]) ∧ Below w.heap.size w w' := by
  go_enter Tryz.func27, Tryz.ntmps27
  go_wp2_with (first | (go_at_call 45; refine (shTree_any none none 0 _ (nilT _)).mono ?_; rintro e w8 ⟨rfl, hb8⟩) | (go_at_call 59; refine (Find_nil 0 _).mono ?_; rintro e w7 ⟨rfl, hb7⟩))
  exact bodyPost_ret (v := .tuple #[.int .u8 0, .int .i64 30]) (by simp [results, Tryz.results27, go_sem]) rfl ⟨rfl, hb8.trans (hb7.mono hb8.size)⟩

end Go.Proofs.YtmhpeppbhjpkiaaGreat

