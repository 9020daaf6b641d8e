/- The chapter's first example comes out: awake answers true. -/
import Derived.Test.YtmhpeppbhjpkiaaGreatPm16
import Derived.Test.YtmhpeppbhjpkiaaGreatPm18
import Derived.Lib.BufferRead
import Derived.Test.YtmhpeppbhjpkiaaGreatPm17
namespace Go.Proofs.YtmhpeppbhjpkiaaGreat
open Go.RowKit

theorem PutR.ok {O A l : List UInt8} {t t' : Tr} {off : Int} (h : PutR O A l t off t') (hw : t.whole) (hg : Gds O A t.list) (hl : l ≠ []) (hz : (txt O A t.list).length + l.length ≤ 1048575) (hA : A.length + l.length ≤ 1048576) :
    t'.whole ∧ Gds O (A ++ l) t'.list ∧ txt O (A ++ l) t'.list = (txt O A t.list).take off.toNat ++ (l ++ (txt O A t.list).drop off.toNat) := by
  obtain ⟨T, U, T', q, b, hc, hj, rfl⟩ := h
  obtain ⟨p1, p2, p3, p4, p5, p6⟩ := put_pure hc hj hw hg hl hz hA
  rw [Tr.joinT_list]
  exact ⟨Tr.joinT_whole _ p1 p2, p3, p4⟩

theorem Chg.below_of {w W W' : World} {B sb bb : Nat} {row : Option Nat} (h : Below B w W) (hB : B ≤ W.heap.size) (hc : Chg W W' sb bb row) (h1 : B ≤ sb) (h2 : B ≤ bb) (h3 : ∀ k, row = some k → B ≤ k) : Below B w W' :=
  ⟨hc.os.trans h.os, hc.tape.trans h.tape, hc.output.trans h.output, Nat.le_trans h.size hc.size, fun k hk => by
    rw [hc.block k (by omega) (by omega) (by omega) (fun e => absurd (h3 k e.symm) (by omega))]; exact h.block k hk⟩

set_option maxHeartbeats 1000000 in
theorem Bytes_some (sb bb : Nat) (vo va : Value) (O A : List UInt8) (t : Tr) (a : Option Addr) (e : Int) (base n : Nat) (w : World) (hSh : Hid (Sh w base sb bb vo va O A t a e)) (hw : Hid t.whole) (hg : Hid (Gds O A t.list)) (hz : Hid ((txt O A t.list).length ≤ 1048576)) (hn : Hid ((txt O A t.list).length = n)) (hn0 : Hid (0 < n)) :
    Calls Tryz.prog 14 #[.pointer (some ⟨sb, 0, none⟩)] w fun e' w' => ∃ ao c, e' = .returned (.slice ao n c) ∧ w'.ownsRow w.heap.size 5 1 (.slice ao n c) n (Ab.bv (txt O A t.list)) ∧ Below w.heap.size w w' := by
  have hb : t.byt = (n : Int) := by rw [byt_list, ← txt_len hg.out, hn.out]
  have HL := hid (fun W (hW : Below w.heap.size w W) => sLen_any (some ⟨sb, 0, none⟩) a e t W (hSh.out.keep hW).sht (hSh.out.tree.keep hW))
  rw [hb] at HL
  have HR := hid (fun W (hW : Below w.heap.size w W) => read_some sb bb vo va O A t a e base 0 n W (hSh.out.keep hW) hw hg hz.out hn0.out (by rw [hn.out]; exact Nat.le_refl _))
  simp only [List.drop_zero, Nat.sub_zero] at HR
  rw [List.take_of_length_le (by rw [hn.out]; exact Nat.le_refl _)] at HR
  clear hb
  go_enter Tryz.func14, Tryz.ntmps14
  go_wp2_with (first | (go_at_call 39; refine (HL.out _ (Below.refl _ _)).mono ?_; rintro e9 w9 ⟨rfl, hb9⟩) | (go_at_call 44; refine (HR.out _ hb9).mono ?_; rintro e8 w8 ⟨ao, c, rfl, hr8, hb8⟩; have R8 := hid hr8; clear hr8))
  go_ret
  exact ⟨ao, c, rfl, Ab.own_lower R8.out hb9.size, hb9.trans (hb8.mono hb9.size)⟩

/-- 'string(p)' of bytes that can be read -/
theorem conv_rd {W : World} {v : Value} {l : List UInt8} (h : Ab.Rd W v l) : (convert 22 9 v).run Tryz.prog W = .ok (.string ⟨l.toArray⟩) W := by
  rcases h with ⟨rfl, rfl⟩ | ⟨a, c, rfl, hc⟩
  · exact Lib.run_convert_nil_bytes W 22 9 5 0 Tryz.underlying22 Tryz.underlying5 Tryz.underlying9
  · exact run_convert_bytes_back W 22 9 5 a c l Tryz.underlying22 Tryz.underlying5 Tryz.underlying9 (fun j hj => hc j _ (Ab.bv_at l j hj))

/-- a literal's bytes, in a new block -/
theorem rd_lit (w : World) (l : List UInt8) (C : Array Value) (m : Nat × Nat) (c : Nat) (hC : C.toList = Ab.bv l) : Ab.Rd (w.alloc (.cells C 5 m)) (.slice (some ⟨w.heap.size, 0, none⟩) l.length c) l := by
  refine .inr ⟨_, c, rfl, fun j u hu => ?_⟩
  have : (⟨w.heap.size, 0, none⟩ : Addr).add j = ⟨w.heap.size, j, none⟩ := by unfold Addr.add; split <;> simp_all
  rw [this, World.cell?_alloc_mark, ← Array.getElem?_toList, hC]; exact hu

set_option maxHeartbeats 4000000 in
theorem awake_any (w : World) : Calls Tryz.prog 4 #[] w fun e w' => e = .returned (.bool true) ∧ Below w.heap.size w w' := by
  have kc := fun (w : World) (C : Array Value) (n c : Nat) => Lib.run_convert_bytes_const (P := Tryz.prog) w 22 5 C n c Tryz.underlying22 Tryz.underlying5
  go_enter Tryz.func4, Tryz.ntmps4
  go_wp2_with fail
  refine (New_any _ 11 hw _ (by decide) (rd_lit w hw _ _ 11 rfl)).mono ?_
  rintro e w1 ⟨sb, bb, vo, a, t, rfl, hS, hN, hb1⟩
  have L1 : Below w.heap.size w w1 := (bAlloc (Below.refl _ _) _).trans (hb1.mono (by simp))
  generalize hbs : (w.alloc _).heap.size = base at hS
  have hlo : w.heap.size ≤ base := by rw [← hbs]; simp
  have HS := hid hS
  obtain ⟨o1, o2, o3, o4⟩ := hN.ok (by decide)
  have l0 := hid (hw_new hN)
  have O1 := hid o1
  have O2 := hid o2
  have O3 := hid o3
  clear hb1 hS hN o1 o2 o3 o4 hbs
  go_wp2_with fail
  refine (Insert_some sb bb vo (.slice none 0 0) hw [] t a 0 base ⟨w1.heap.size, 0, none⟩ 1 [44] 5 _ (hid (HS.out.keep (bAlloc (Below.refl _ _) _))) O1 O2 (hid (by rw [O3.out]; decide)) (hid (by decide)) (hid (rd_lit w1 [44] _ _ 1 rfl)) rfl (by decide) (by rw [byt_list, l0.out]; decide) (by decide)).mono ?_
  rintro e w2 ⟨rfl, w1', hb1', a2, va2, t2, hput, hS2, hc2, hown2⟩
  have L1' := (bAlloc L1 (.cells #[.int .u8 44] 5 (1, 2))).trans (hb1'.mono (bAlloc L1 _).size)
  have L2 : Below w.heap.size w w2 := Chg.below_of L1' L1'.size hc2 (Nat.le_trans hlo hS2.lo) (Nat.le_trans hlo hS2.buf.lo) (fun k hk => by cases hk)
  obtain ⟨p1, p2, p3⟩ := hput.ok O1.out O2.out (by simp) (by rw [O3.out]; decide) (by decide)
  obtain ⟨pa, pc, q1, q2, q3⟩ := hw_one l0.out hput
  rw [O3.out] at p3
  have hrow2 : ∀ k, va2.ownBlock = some k → w.heap.size ≤ k := fun k hk => by
    rcases hown2 with h | ⟨k', h, h'⟩
    · rw [h] at hk; cases hk
    · rw [h] at hk; cases hk; exact Nat.le_trans L1'.size h'
  have S2 := hid hS2
  have P1 := hid p1
  have P2 := hid p2
  have P3 := hid p3
  have Q1 := hid q1
  have HR2 := hid hrow2
  clear hput hS2 hc2 hown2 p1 p2 p3 q1 hrow2 HS O1 O2 O3 l0 hb1' L1 L1'
  go_wp2_with fail
  refine (Insert_some sb bb vo va2 hw ([] ++ [44]) t2 a2 (0 + 1) base ⟨w2.heap.size, 0, none⟩ 1 [33] 6 _ (hid (S2.out.keep (bAlloc (Below.refl _ _) _))) P1 P2 (hid (by rw [P3.out]; decide)) (hid (by decide)) (hid (rd_lit w2 [33] _ _ 1 rfl)) rfl (by decide) (by rw [byt_list, Q1.out]; simp [sB, q2, q3, newP]) (by decide)).mono ?_
  rintro e w3 ⟨rfl, w2', hb2', a3, va3, t3, hput, hS3, hc3, hown3⟩
  have L2' := (bAlloc L2 (.cells #[.int .u8 33] 5 (1, 2))).trans (hb2'.mono (bAlloc L2 _).size)
  have L3 : Below w.heap.size w w3 := Chg.below_of L2' L2'.size hc3 (Nat.le_trans hlo hS3.lo) (Nat.le_trans hlo hS3.buf.lo) HR2.out
  obtain ⟨p1, p2, p3⟩ := hput.ok P1.out P2.out (by simp) (by rw [P3.out]; decide) (by decide)
  have hsz := hw_two Q1.out q2 q3 hput
  rw [P3.out] at p3
  have htx : txt hw (([] ++ [44]) ++ [33]) t3.list = [104, 101, 108, 108, 111, 44, 33, 32, 119, 111, 114, 108, 100] := by rw [p3]; decide
  have S3 := hid hS3
  have R1 := hid p1
  have R2 := hid p2
  have HT := hid htx
  have HZ := hid hsz
  clear hput hS3 hc3 hown3 p1 p2 p3 htx hsz L2' hb2' L2 S2 P1 P2 P3 Q1 HR2
  have HB := hid (fun W (hW : Below w3.heap.size w3 W) => Bytes_some sb bb vo va3 hw (([] ++ [44]) ++ [33]) t3 a3 (0 + 1 + 1) base 13 W (S3.out.keep hW) R1 R2 (hid (by rw [HT.out]; decide)) (hid (by rw [HT.out]; rfl)) (hid (by decide)))
  rw [HT.out] at HB
  have HP := hid (fun W (hW : Below w3.heap.size w3 W) => Pieces_any (some ⟨sb, 0, none⟩) a3 (0 + 1 + 1) t3 W (S3.out.keep hW).sht (S3.out.tree.keep hW) (by rw [HZ.out]; decide))
  rw [HZ.out] at HP
  have HE := hid (fun W (hW : Below w3.heap.size w3 W) => edits_any (some ⟨sb, 0, none⟩) a3 (0 + 1 + 1) W (S3.out.keep hW).sht)
  have HW := hid (fun W (hW : Below w3.heap.size w3 W) => sRows_any (some ⟨sb, 0, none⟩) a3 (0 + 1 + 1) t3 W (S3.out.keep hW).sht (S3.out.tree.keep hW) (show t3.size ≤ 2097152 by rw [HZ.out]; decide))
  rw [HZ.out] at HW
  go_wp2_with (first
    | (go_at_call 14; refine (HB.out _ (Below.refl _ _)).mono ?_; rintro e w4 ⟨ao, c, rfl, hr4, hb4⟩; have cv := conv_rd (Ab.own_rd (l := [104, 101, 108, 108, 111, 44, 33, 32, 119, 111, 114, 108, 100]) hr4); clear hr4)
    | (go_at_call 15; refine (HP.out _ hb4).mono ?_; rintro e w5 ⟨ao5, c5, rfl, hr5, hb5⟩; have hb5' := hb4.trans (hb5.mono hb4.size); clear hr5 cv)
    | (go_at_call 16; refine (HE.out _ hb5').mono ?_; rintro e w6 ⟨rfl, hb6⟩; have hb6' := hb5'.trans (hb6.mono hb5'.size))
    | (go_at_call 17; refine (HW.out _ hb6').mono ?_; rintro e w7 ⟨ao7, c7, rfl, hr7, hb7⟩; have hb7' := hb6'.trans (hb7.mono hb6'.size); clear hr7))
  go_ret
  exact ⟨rfl, L3.trans (hb7'.mono L3.size)⟩

end Go.Proofs.YtmhpeppbhjpkiaaGreat

/- What the law SheetBack wants besides: nothing put in, nothing taken out; same; place. -/
namespace Go.Proofs.YtmhpeppbhjpkiaaGreat
open Go.RowKit

set_option maxHeartbeats 400000 in
theorem putIn_none (p x : Value) (ao : Option Addr) (c : Nat) (w : World) : Calls Tryz.prog 43 #[p, x, .slice ao 0 c] w fun e' w' => (∃ r, e' = .returned r) ∧ Below w.heap.size w w' := by
  go_enter Tryz.func43, Tryz.ntmps43
  go_wp2
  refine bodyPost_ret (results_none rfl _ _ _) rfl ?_
  exact ⟨⟨_, rfl⟩, Below.refl _ _⟩

set_option maxHeartbeats 400000 in
theorem takeOut_none (p : Value) (x : Int) (w : World) : Calls Tryz.prog 68 #[p, .int .i64 x, .int .i64 x] w fun e' w' => (∃ r, e' = .returned r) ∧ Below w.heap.size w w' := by
  go_enter Tryz.func68, Tryz.ntmps68
  go_wp2
  refine bodyPost_ret (results_none rfl _ _ _) rfl ?_
  exact ⟨⟨_, rfl⟩, Below.refl _ _⟩

set_option maxHeartbeats 1000000 in
theorem Insert_empty (sb : Nat) (t : Tr) (a : Option Addr) (e : Int) (ao : Option Addr) (c : Nat) (off : Int) (w : World) (hS : Hid (ShT w (some ⟨sb, 0, none⟩) a e)) (hT : Hid (At w t a)) (h0 : 0 ≤ off) (h1 : off ≤ t.byt) :
    Calls Tryz.prog 13 #[.pointer (some ⟨sb, 0, none⟩), .int .i64 off, .slice ao 0 c] w fun e' w' => e' = .returned (.int .i64 0) ∧ Below w.heap.size w w' := by
  have hr : decide (0 ≤ off ∧ off ≤ off ∧ off ≤ t.byt) = true := by simp; omega
  have HR := hid (hasRange_any (some ⟨sb, 0, none⟩) a e t off off w hS hT)
  rw [hr] at HR
  go_enter Tryz.func13, Tryz.ntmps13
  go_wp2_with (first
    | (go_at_call 42; refine HR.out.mono ?_; rintro e9 w9 ⟨rfl, hb9⟩)
    | (go_at_call 43; refine (putIn_none _ _ _ _ _).mono ?_; rintro e8 w8 ⟨⟨r8, rfl⟩, hb8⟩))
  go_ret
  exact ⟨rfl, hb9.trans (hb8.mono hb9.size)⟩

set_option maxHeartbeats 1000000 in
theorem Delete_empty (sb : Nat) (t : Tr) (a : Option Addr) (e : Int) (off : Int) (w : World) (hS : Hid (ShT w (some ⟨sb, 0, none⟩) a e)) (hT : Hid (At w t a)) (h0 : 0 ≤ off) (h1 : off ≤ t.byt) :
    Calls Tryz.prog 34 #[.pointer (some ⟨sb, 0, none⟩), .int .i64 off, .int .i64 off] w fun e' w' => e' = .returned (.int .i64 0) ∧ Below w.heap.size w w' := by
  have hr : decide (0 ≤ off ∧ off ≤ off ∧ off ≤ t.byt) = true := by simp; omega
  have HR := hid (hasRange_any (some ⟨sb, 0, none⟩) a e t off off w hS hT)
  rw [hr] at HR
  go_enter Tryz.func34, Tryz.ntmps34
  go_wp2_with (first
    | (go_at_call 42; refine HR.out.mono ?_; rintro e9 w9 ⟨rfl, hb9⟩)
    | (go_at_call 68; refine (takeOut_none _ _ _).mono ?_; rintro e8 w8 ⟨⟨r8, rfl⟩, hb8⟩))
  go_ret
  exact ⟨rfl, hb9.trans (hb8.mono hb9.size)⟩

set_option maxHeartbeats 400000 in
theorem same_yes (u v : Value) (l : List UInt8) (w : World) (h1 : Ab.Rd w u l) (h2 : Ab.Rd w v l) : Calls Tryz.prog 26 #[u, v] w fun e w' => e = .returned (.bool true) ∧ Below w.heap.size w w' := by
  have k1 := conv_rd h1
  have k2 := conv_rd h2
  clear h1 h2
  go_enter Tryz.func26, Tryz.ntmps26
  go_wp2
  go_ret
  exact ⟨by simp, Below.refl _ _⟩

/-- All bytes of a sheet, whatever its text. -/
theorem Bytes_any' (sb bb : Nat) (vo va : Value) (O A : List UInt8) (t : Tr) (a : Option Addr) (e : Int) (base : Nat) (w : World) (hSh : Sh w base sb bb vo va O A t a e) (hw : t.whole) (hg : Gds O A t.list) (hz : (txt O A t.list).length ≤ 1048576) :
    Calls Tryz.prog 14 #[.pointer (some ⟨sb, 0, none⟩)] w fun e' w' => ∃ v, e' = .returned v ∧ Ab.Rd w' v (txt O A t.list) ∧ Below w.heap.size w w' := by
  rcases Nat.eq_zero_or_pos (txt O A t.list).length with h0 | h0
  · have hb : t.byt = 0 := by rw [byt_list, ← txt_len hg, h0]; rfl
    have HL := hid (sLen_any (some ⟨sb, 0, none⟩) a e t w hSh.sht hSh.tree)
    rw [hb] at HL
    have hnil : txt O A t.list = [] := List.eq_nil_of_length_eq_zero h0
    rw [hnil]
    clear hb h0 hnil hz hg hw hSh
    go_enter Tryz.func14, Tryz.ntmps14
    go_wp2_with (first | (go_at_call 39; refine HL.out.mono ?_; rintro e9 w9 ⟨rfl, hb9⟩) | (go_at_call 44; refine (read_none _ 0 _).mono ?_; rintro e8 w8 ⟨rfl, hb8⟩))
    go_ret
    exact ⟨_, rfl, .inl ⟨rfl, rfl⟩, hb9.trans (hb8.mono hb9.size)⟩
  · exact (Bytes_some sb bb vo va O A t a e base _ w (hid hSh) (hid hw) (hid hg) (hid hz) (hid rfl) (hid h0)).mono fun e' w' ⟨ao, c, h1, h2, h3⟩ => ⟨_, h1, Ab.own_rd h2, h3⟩

end Go.Proofs.YtmhpeppbhjpkiaaGreat

/- A sheet's fits. -/
namespace Go.Proofs.YtmhpeppbhjpkiaaGreat
open Go.RowKit

set_option maxHeartbeats 400000 in
theorem equal_any (u v : Value) (l m : List UInt8) (w : World) (h1 : Ab.Rd w u l) (h2 : Ab.Rd w v m) : Calls Tryz.prog 116 #[u, v] w fun e w' => e = .returned (.bool (decide (l = m))) ∧ Below w.heap.size w w' := by
  have k1 := conv_rd h1
  have k2 := conv_rd h2
  clear h1 h2
  go_enter Tryz.func116, Tryz.ntmps116
  go_wp2
  go_ret
  refine ⟨?_, Below.refl _ _⟩
  simp
  by_cases h : l = m
  · simp [h]
  · simp [h]

set_option maxHeartbeats 2000000 in
theorem fits_high (p a : Option Addr) (e : Int) (t : Tr) (x : Int) (ao : Option Addr) (n c : Nat) (vn : Value) (w : World) (hS : Hid (ShT w p a e)) (hT : Hid (At w t a)) (hn : n ≤ 4611686018427387904) (hx0 : 0 ≤ x) (hb0 : 0 ≤ t.byt) (hb1 : t.byt ≤ 1048576) (hx : t.byt - n < x) :
    Calls Tryz.prog 71 #[.pointer p, .agg #[.int .i64 x, .slice ao n c, vn]] w fun e' w' => e' = .returned (.bool false) ∧ Below w.heap.size w w' := by
  have HL := hid (fun W (hW : Below w.heap.size w W) => sLen_any p a e t W (hS.out.keep hW) (hT.out.keep hW))
  have hx1 : decide (x < 0) = false := by simp; omega
  have hw1 : IntKind.i64.wrap (t.byt - n) = t.byt - n := by rw [IntKind.wrap_i64]; omega
  have hx2 : decide (t.byt - (n : Int) < x) = true := by simp; omega
  go_enter Tryz.func71, Tryz.ntmps71
  go_wp2
  have b9 := bAlloc (Below.refl w.heap.size w) (.cells #[.int .i64 x, .slice ao n c, vn] 83)
  have P9 := World.alloc_heap_new w (.cells #[.int .i64 x, .slice ao n c, vn] 83)
  generalize w.alloc (.cells #[.int .i64 x, .slice ao n c, vn] 83) = w9 at *
  obtain ⟨d0, d1, d2⟩ := three_cells P9
  have HP9 := hid P9
  clear P9
  go_region_held3 (fun w' => w'.cell? ⟨w.heap.size, 0, none⟩ = some (.int .i64 x) ∧ w'.cell? ⟨w.heap.size, 1, none⟩ = some (.slice ao n c)) (first | assumption | simp [*, go_sem])
    (first | (go_at_call 39; refine (HL.out _ b9.drew).mono ?_; rintro e5 w5 ⟨rfl, hb5⟩; have b5 := b9.trans ((bD hb5).mono b9.size); obtain ⟨d0, d1, d2⟩ := three_cells (((bD hb5).block _ (sh_lt HP9.out)).trans HP9.out)))
  go_wp2
  exact bodyPost_ret (v := .bool false) (by simp [results, Tryz.results71, go_sem]) rfl ⟨rfl, b5⟩

set_option linter.unusedSimpArgs false in
set_option maxHeartbeats 2000000 in
theorem fits_low (p ao : Option Addr) (x : Int) (n c : Nat) (vn : Value) (w : World) (hx : x < 0) :
    Calls Tryz.prog 71 #[.pointer p, .agg #[.int .i64 x, .slice ao n c, vn]] w fun e' w' => e' = .returned (.bool false) ∧ Below w.heap.size w w' := by
  have hx1 : decide (x < 0) = true := by simp; omega
  go_enter Tryz.func71, Tryz.ntmps71
  go_wp2
  have b9 := bAlloc (Below.refl w.heap.size w) (.cells #[.int .i64 x, .slice ao n c, vn] 83)
  have P9 := World.alloc_heap_new w (.cells #[.int .i64 x, .slice ao n c, vn] 83)
  generalize w.alloc (.cells #[.int .i64 x, .slice ao n c, vn] 83) = w9 at *
  obtain ⟨d0, d1, d2⟩ := three_cells P9
  clear P9
  refine wp_region_any (by kernel_rfl) ?_
  change wpAny _ _ _ _ _ _ _ (World.drew _)
  refine wpAny_ready (rs := [0]) (by kernel_rfl) (by simp) (AllReady.cons rfl (fun K hK => ?_) AllReady.nil)
  go_simp
  refine hK _ _ ?_
  clear hK K
  try simp only [Act.put, List.getElem_toArray, List.getElem_cons_zero, List.getElem_cons_succ, List.setIfInBounds_toArray, List.set_cons_zero, List.set_cons_succ]
  refine wpAny_ready (rs := [1]) (by kernel_rfl) (by simp) (AllReady.cons rfl (fun K hK => ?_) AllReady.nil)
  go_simp
  refine hK _ _ ?_
  clear hK K
  try simp only [Act.put, List.getElem_toArray, List.getElem_cons_zero, List.getElem_cons_succ, List.setIfInBounds_toArray, List.set_cons_zero, List.set_cons_succ]
  refine wpAny_take (i := 2) (v := .bool true) rfl (by kernel_rfl) (by kernel_rfl) (by kernel_rfl) (fun _ _ _ h => h) (Or.inl ⟨by kernel_rfl, fun w => by go_simp⟩) ?_
  try simp only [Act.put, List.getElem_toArray, List.getElem_cons_zero, List.getElem_cons_succ, List.setIfInBounds_toArray, List.set_cons_zero, List.set_cons_succ]
  refine wpAny_take (i := 3) (v := .bool true) rfl (by kernel_rfl) (by kernel_rfl) (by kernel_rfl) (fun _ _ _ h => h) (Or.inl ⟨by kernel_rfl, fun w => by go_simp⟩) ?_
  try simp only [Act.put, List.getElem_toArray, List.getElem_cons_zero, List.getElem_cons_succ, List.setIfInBounds_toArray, List.set_cons_zero, List.set_cons_succ]
  refine wpAny_take (i := 4) (v := undef) rfl (by kernel_rfl) (by kernel_rfl) (by kernel_rfl) (fun _ _ _ h => h) (Or.inr ⟨by kernel_rfl, rfl⟩) ?_
  try simp only [Act.put, List.getElem_toArray, List.getElem_cons_zero, List.getElem_cons_succ, List.setIfInBounds_toArray, List.set_cons_zero, List.set_cons_succ]
  refine wpAny_take (i := 5) (v := undef) rfl (by kernel_rfl) (by kernel_rfl) (by kernel_rfl) (fun _ _ _ h => h) (Or.inr ⟨by kernel_rfl, rfl⟩) ?_
  try simp only [Act.put, List.getElem_toArray, List.getElem_cons_zero, List.getElem_cons_succ, List.setIfInBounds_toArray, List.set_cons_zero, List.set_cons_succ]
  refine wpAny_take (i := 6) (v := undef) rfl (by kernel_rfl) (by kernel_rfl) (by kernel_rfl) (fun _ _ _ h => h) (Or.inr ⟨by kernel_rfl, rfl⟩) ?_
  try simp only [Act.put, List.getElem_toArray, List.getElem_cons_zero, List.getElem_cons_succ, List.setIfInBounds_toArray, List.set_cons_zero, List.set_cons_succ]
  refine wpAny_take (i := 7) (v := undef) rfl (by kernel_rfl) (by kernel_rfl) (by kernel_rfl) (fun _ _ _ h => h) (Or.inr ⟨by kernel_rfl, rfl⟩) ?_
  try simp only [Act.put, List.getElem_toArray, List.getElem_cons_zero, List.getElem_cons_succ, List.setIfInBounds_toArray, List.set_cons_zero, List.set_cons_succ]
  refine wpAny_take (i := 8) (v := undef) rfl (by kernel_rfl) (by kernel_rfl) (by kernel_rfl) (fun _ _ _ h => h) (Or.inr ⟨by kernel_rfl, rfl⟩) ?_
  try simp only [Act.put, List.getElem_toArray, List.getElem_cons_zero, List.getElem_cons_succ, List.setIfInBounds_toArray, List.set_cons_zero, List.set_cons_succ]
  refine wpAny_take (i := 9) (v := undef) rfl (by kernel_rfl) (by kernel_rfl) (by kernel_rfl) (fun _ _ _ h => h) (Or.inr ⟨by kernel_rfl, rfl⟩) ?_
  try simp only [Act.put, List.getElem_toArray, List.getElem_cons_zero, List.getElem_cons_succ, List.setIfInBounds_toArray, List.set_cons_zero, List.set_cons_succ]
  refine wpAny_take (i := 10) (v := undef) rfl (by kernel_rfl) (by kernel_rfl) (by kernel_rfl) (fun _ _ _ h => h) (Or.inr ⟨by kernel_rfl, rfl⟩) ?_
  try simp only [Act.put, List.getElem_toArray, List.getElem_cons_zero, List.getElem_cons_succ, List.setIfInBounds_toArray, List.set_cons_zero, List.set_cons_succ]
  refine wpAny_take (i := 11) (v := undef) rfl (by kernel_rfl) (by kernel_rfl) (by kernel_rfl) (fun _ _ _ h => h) (Or.inr ⟨by kernel_rfl, rfl⟩) ?_
  try simp only [Act.put, List.getElem_toArray, List.getElem_cons_zero, List.getElem_cons_succ, List.setIfInBounds_toArray, List.set_cons_zero, List.set_cons_succ]
  refine wpAny_take (i := 12) (v := undef) rfl (by kernel_rfl) (by kernel_rfl) (by kernel_rfl) (fun _ _ _ h => h) (Or.inr ⟨by kernel_rfl, rfl⟩) ?_
  try simp only [Act.put, List.getElem_toArray, List.getElem_cons_zero, List.getElem_cons_succ, List.setIfInBounds_toArray, List.set_cons_zero, List.set_cons_succ]
  refine wpAny_take (i := 13) (v := .bool true) rfl (by kernel_rfl) (by kernel_rfl) (by kernel_rfl) (fun _ _ _ h => h) (Or.inl ⟨by kernel_rfl, fun w => by go_simp⟩) ?_
  try simp only [Act.put, List.getElem_toArray, List.getElem_cons_zero, List.getElem_cons_succ, List.setIfInBounds_toArray, List.set_cons_zero, List.set_cons_succ]
  refine wpAny_done (by kernel_rfl) ?_ _
  go_wp2
  exact bodyPost_ret (v := .bool false) (by simp [results, Tryz.results71, go_sem]) rfl ⟨rfl, b9.drew⟩

/-- The bytes between two places. -/
theorem read_any (sb bb : Nat) (vo va : Value) (O A : List UInt8) (t : Tr) (a : Option Addr) (e : Int) (base : Nat) (x y : Nat) (w : World) (hSh : Hid (Sh w base sb bb vo va O A t a e)) (hw : Hid t.whole) (hg : Hid (Gds O A t.list)) (hz : (txt O A t.list).length ≤ 1048576) (hxy : x ≤ y) (hy : y ≤ (txt O A t.list).length) :
    Calls Tryz.prog 44 #[.pointer (some ⟨sb, 0, none⟩), .int .i64 (x : Int), .int .i64 (y : Int)] w fun e' w' => ∃ ao c, e' = .returned (.slice ao (y - x) c) ∧ w'.ownsRow w.heap.size 5 1 (.slice ao (y - x) c) (y - x) (Ab.bv (((txt O A t.list).drop x).take (y - x))) ∧ Below w.heap.size w w' := by
  rcases Nat.lt_or_ge x y with h | h
  · exact read_some sb bb vo va O A t a e base x y w hSh hw hg hz h hy
  · obtain rfl : x = y := by omega
    exact (read_none _ _ w).mono fun e' w' ⟨h1, h2⟩ => ⟨none, 0, by rw [h1, Nat.sub_self], by rw [Nat.sub_self, List.take_zero]; exact World.ownsRow_nil _ _ _ _, h2⟩

set_option maxHeartbeats 2000000 in
theorem fits_mid (sb bb : Nat) (vo va : Value) (O A : List UInt8) (t : Tr) (a : Option Addr) (e : Int) (base : Nat) (x : Nat) (ao : Option Addr) (c : Nat) (m : List UInt8) (vn : Value) (w : World) (hSh : Hid (Sh w base sb bb vo va O A t a e)) (hw : Hid t.whole) (hg : Hid (Gds O A t.list)) (hz : Hid ((txt O A t.list).length ≤ 1048576)) (hm : Hid (Ab.Rd w (.slice ao m.length c) m)) (hx : x + m.length ≤ (txt O A t.list).length) :
    Calls Tryz.prog 71 #[.pointer (some ⟨sb, 0, none⟩), .agg #[.int .i64 (x : Int), .slice ao m.length c, vn]] w fun e' w' => e' = .returned (.bool (decide (((txt O A t.list).drop x).take m.length = m))) ∧ Below w.heap.size w w' := by
  have hb := txt_len hg.out
  rw [← byt_list] at hb
  have hz' := hz.out
  have HL := hid (fun W (hW : Below w.heap.size w W) => sLen_any (some ⟨sb, 0, none⟩) a e t W (hid (hSh.out.keep hW).sht) (hSh.out.tree.keep hW))
  have HR := hid (fun W (hW : Below w.heap.size w W) => read_any sb bb vo va O A t a e base x (x + m.length) W (hid (hSh.out.keep hW)) hw hg hz' (by omega) hx)
  have hx1 : decide ((x : Int) < 0) = false := by simp
  have hlen := hid (show (((txt O A t.list).drop x).take m.length).length = m.length from by rw [List.length_take, List.length_drop]; omega)
  have hw1 : IntKind.i64.wrap (t.byt - m.length) = t.byt - m.length := by rw [IntKind.wrap_i64]; omega
  have hw2 : IntKind.i64.wrap ((x : Int) + m.length) = ((x + m.length : Nat) : Int) := by rw [IntKind.wrap_i64]; omega
  have hx2 : decide (t.byt - (m.length : Int) < x) = false := by simp; omega
  have hmm : x + m.length - x = m.length := by omega
  rw [hmm] at HR
  go_enter Tryz.func71, Tryz.ntmps71
  go_wp2
  have b9 := bAlloc (Below.refl w.heap.size w) (.cells #[.int .i64 (x : Int), .slice ao m.length c, vn] 83)
  have P9 := World.alloc_heap_new w (.cells #[.int .i64 (x : Int), .slice ao m.length c, vn] 83)
  generalize w.alloc (.cells #[.int .i64 (x : Int), .slice ao m.length c, vn] 83) = w9 at *
  obtain ⟨d0, d1, d2⟩ := three_cells P9
  have HP9 := hid P9
  clear P9
  go_region_held3 (fun w' => w'.cell? ⟨w.heap.size, 0, none⟩ = some (.int .i64 (x : Int)) ∧ w'.cell? ⟨w.heap.size, 1, none⟩ = some (.slice ao m.length c)) (first | assumption | simp [*, go_sem])
    (first | (go_at_call 39; refine (HL.out _ b9.drew).mono ?_; rintro e5 w5 ⟨rfl, hb5⟩; have b5 := b9.trans ((bD hb5).mono b9.size); have HP5 := hid (((bD hb5).block _ (sh_lt HP9.out)).trans HP9.out); clear d0 d1 d2; obtain ⟨d0, d1, d2⟩ := three_cells HP5.out))
  go_wp2
  go_region_held3 (fun w' => w'.cell? ⟨w.heap.size, 0, none⟩ = some (.int .i64 (x : Int)) ∧ w'.cell? ⟨w.heap.size, 1, none⟩ = some (.slice ao m.length c)) (first | assumption | simp [*, go_sem])
    (first | (go_at_call 44; refine (HR.out _ b5.drew).mono ?_; rintro e4 w4 ⟨ao4, c4, rfl, hr4, hb4⟩; have b4 := b5.trans ((bD hb4).mono b5.size); have R4 := hid (Ab.own_rd (l := ((txt O A t.list).drop x).take m.length) (by rw [hlen.out]; exact hr4)); have M4 := hid (hm.out.keep b4); have HP4 := hid (((bD hb4).block _ (sh_lt HP5.out)).trans HP5.out); clear hr4 d0 d1 d2; obtain ⟨d0, d1, d2⟩ := three_cells HP4.out)
           | (go_at_call 116; refine (equal_any _ _ (((txt O A t.list).drop x).take m.length) m _ R4.out M4.out).mono ?_; rintro e3 w3 ⟨rfl, hb3⟩; have b3 := b4.trans (hb3.mono b4.size); clear d0 d1 d2; obtain ⟨d0, d1, d2⟩ := three_cells ((hb3.block _ (sh_lt HP4.out)).trans HP4.out)))
  go_wp2
  exact bodyPost_ret (v := .bool (decide (((txt O A t.list).drop x).take m.length = m))) (by simp [results, Tryz.results71, go_sem]) rfl ⟨rfl, b3⟩

theorem fits_any (sb bb : Nat) (vo va : Value) (O A : List UInt8) (t : Tr) (a : Option Addr) (e : Int) (base : Nat) (x : Int) (ao : Option Addr) (c : Nat) (m : List UInt8) (vn : Value) (w : World) (hSh : Hid (Sh w base sb bb vo va O A t a e)) (hw : Hid t.whole) (hg : Hid (Gds O A t.list)) (hz : Hid ((txt O A t.list).length ≤ 1048576)) (hm : Hid (Ab.Rd w (.slice ao m.length c) m)) (hbig : m.length ≤ 4611686018427387904) :
    Calls Tryz.prog 71 #[.pointer (some ⟨sb, 0, none⟩), .agg #[.int .i64 x, .slice ao m.length c, vn]] w fun e' w' => e' = .returned (.bool (decide (0 ≤ x ∧ x + m.length ≤ (txt O A t.list).length ∧ ((txt O A t.list).drop x.toNat).take m.length = m))) ∧ Below w.heap.size w w' := by
  have hb := txt_len hg.out
  rw [← byt_list] at hb
  have hz' := hz.out
  rcases Int.lt_or_le x 0 with h | h
  · rw [show decide (0 ≤ x ∧ x + m.length ≤ (txt O A t.list).length ∧ ((txt O A t.list).drop x.toNat).take m.length = m) = false from by simp; omega]
    exact fits_low _ _ _ _ _ _ _ h
  · obtain ⟨k, rfl⟩ : ∃ k : Nat, x = k := ⟨x.toNat, by omega⟩
    rcases Nat.lt_or_ge (txt O A t.list).length (k + m.length) with h2 | h2
    · rw [show decide (0 ≤ (k : Int) ∧ (k : Int) + m.length ≤ (txt O A t.list).length ∧ ((txt O A t.list).drop (k : Int).toNat).take m.length = m) = false from by simp; omega]
      exact fits_high _ a e t _ _ _ _ _ w (hid hSh.out.sht) hSh.out.tree hbig h (by omega) (by omega) (by omega)
    · refine (fits_mid sb bb vo va O A t a e base k ao c m vn w hSh hw hg hz hm h2).mono ?_
      rintro e' w' ⟨rfl, hb'⟩
      refine ⟨?_, hb'⟩
      congr 3
      simp
      omega

end Go.Proofs.YtmhpeppbhjpkiaaGreat

/- A sheet's forget. -/
namespace Go.Proofs.YtmhpeppbhjpkiaaGreat
open Go.RowKit

set_option maxHeartbeats 1000000 in
theorem forget_same (sb bb : Nat) (vo va : Value) (O A : List UInt8) (t : Tr) (a : Option Addr) (e : Int) (base : Nat) (w : World) (hSh : Hid (Sh w base sb bb vo va O A t a e)) :
    Calls Tryz.prog 72 #[.pointer (some ⟨sb, 0, none⟩), .int .i64 (A.length : Int)] w fun e' w' => (∃ r, e' = .returned r) ∧ Below w.heap.size w w' := by
  have HZ := hid (Ab.size_any (some ⟨bb, 0, none⟩) 1 O A base w (hid hSh.out.shb.buf))
  obtain ⟨c0, c1, c2, _, _, _⟩ := sh_cells hSh.out.here
  go_enter Tryz.func72, Tryz.ntmps72
  go_wp2_with (go_at_call 70; refine HZ.out.mono ?_; rintro e9 w9 ⟨rfl, rfl⟩; simp only [Ab.which])
  refine bodyPost_ret (results_none rfl _ _ _) rfl ?_
  exact ⟨⟨_, rfl⟩, Below.refl _ _⟩

theorem buf_lower {W : World} {base base' b : Nat} {vo va : Value} {O A : List UInt8} (h : Ab.BufAt W base b vo va O A) (hb : base' ≤ base) : Ab.BufAt W base' b vo va O A :=
  ⟨Nat.le_trans hb h.lo, h.here, Ab.own_lower h.orig hb, Ab.own_lower h.added hb, h.apart⟩

theorem sh_set0 {W : World} {sb : Nat} {x y z : Value} (h : W.heap[sb]? = some (.cells #[x, y, z] 55 (0, 0))) (x' : Value) :
    (W.setCell ⟨sb, 0, none⟩ x').heap[sb]? = some (.cells #[x', y, z] 55 (0, 0)) ∧ (∀ k, k ≠ sb → (W.setCell ⟨sb, 0, none⟩ x').heap[k]? = W.heap[k]?) ∧ (W.setCell ⟨sb, 0, none⟩ x').heap.size = W.heap.size := by
  refine ⟨?_, fun k hk => Below.heap_setCell _ _ _ _ hk, by show (W.heap.modify _ _).size = _; rw [Array.size_modify]⟩
  obtain ⟨hlt, hk'⟩ := Array.getElem?_eq_some_iff.1 h
  show (W.heap.modify sb _)[sb]? = _
  rw [Array.getElem?_eq_getElem (by rw [Array.size_modify]; exact hlt), Array.getElem_modify_self, hk']
  rfl

theorem buf_past {W : World} {base sb bb : Nat} {vo va : Value} {O A : List UInt8} {x y z : Value} (hB : Ab.BufAt W base bb vo va O A) (h : W.heap[sb]? = some (.cells #[x, y, z] 55 (0, 0))) (x' : Value) : Ab.BufAt (W.setCell ⟨sb, 0, none⟩ x') base bb vo va O A := by
  obtain ⟨_, s2, _⟩ := sh_set0 h x'
  refine ⟨hB.lo, (s2 bb (fun e => by have := hB.here; rw [e, h] at this; cases this)).trans hB.here, ?_, ?_, hB.apart⟩
  · exact own_same hB.orig fun k e hk => s2 k (fun e' => Ab.own_ne hB.orig h (by decide) (by rw [e, e']))
  · exact own_same hB.added fun k e hk => s2 k (fun e' => Ab.own_ne hB.added h (by decide) (by rw [e, e']))

set_option maxHeartbeats 2000000 in
theorem forget_more (sb bb : Nat) (vo va : Value) (O A B : List UInt8) (t : Tr) (a : Option Addr) (e : Int) (base : Nat) (w : World) (hSh : Hid (Sh w base sb bb vo va O (A ++ B) t a e)) (hO : O.length ≤ 1048576) (hA : A.length + B.length ≤ 1073741824) (hB : 1 ≤ B.length) :
    Calls Tryz.prog 72 #[.pointer (some ⟨sb, 0, none⟩), .int .i64 (A.length : Int)] w fun e' w' => (∃ r, e' = .returned r) ∧ ∃ bb' vo' va', Sh w' base sb bb' vo' va' O A t a e ∧ w'.os = w.os ∧ w'.tape = w.tape ∧ w'.output = w.output ∧ w.heap.size ≤ w'.heap.size ∧ w.heap.size ≤ bb' ∧ (∀ k, va'.ownBlock = some k → w.heap.size ≤ k) ∧ (∀ k, vo'.ownBlock = some k → w.heap.size ≤ k) ∧ ∀ k, k < w.heap.size → k ≠ sb → w'.heap[k]? = w.heap[k]? := by
  have HZ := hid (fun k W (hW : Below w.heap.size w W) => Ab.size_any (some ⟨bb, 0, none⟩) k O (A ++ B) base W (hid (hSh.out.keep hW).shb.buf))
  have HR0 := hid (fun W (hW : Below w.heap.size w W) => Ab.read_yes (some ⟨bb, 0, none⟩) 0 0 O.length O (A ++ B) base W (by simp [Ab.sndB]; omega) (by simp [Ab.which]) (by omega) (hid (hSh.out.keep hW).shb.buf))
  have HR1 := hid (fun W (hW : Below w.heap.size w W) => Ab.read_yes (some ⟨bb, 0, none⟩) 1 0 A.length O (A ++ B) base W (by simp [Ab.sndB]; omega) (by simp [Ab.which]) (by omega) (hid (hSh.out.keep hW).shb.buf))
  have HS := hid (fun W (hW : Below w.heap.size w W) => (hSh.out.keep hW).here)
  have hne : (((A ++ B).length : Int) == (A.length : Int)) = false := by simp; omega
  obtain ⟨c0, c1, c2, _, _, _⟩ := sh_cells hSh.out.here
  go_enter Tryz.func72, Tryz.ntmps72
  go_wp2_with (go_at_call 70; refine (HZ.out 1 _ (Below.refl _ _)).mono ?_; rintro e9 w9 ⟨rfl, rfl⟩; simp only [Ab.which])
  go_region_held3 (fun w' => w'.cell? ⟨sb, 0, none⟩ = some (.pointer (some ⟨bb, 0, none⟩))) (first | assumption | simp [*, go_sem])
    (first | (go_at_call 70; refine (HZ.out 0 _ (Below.refl _ _).drew).mono ?_; rintro e8 w8 ⟨rfl, rfl⟩; simp only [Ab.which]) | (go_at_call 79; refine (HR0.out _ (Below.refl _ _).drew).mono ?_; rintro e7 w7 ⟨ao7, c7, rfl, hr7, hb7⟩; have b7 := bD hb7; have R7 := hid hr7; clear hr7 c0 c1 c2; obtain ⟨c0, c1, c2, _, _, _⟩ := sh_cells (HS.out _ b7)))
  have EO : Ab.cutL 0 ((0 : Nat) : Int) (O.length : Int) O (A ++ B) = O := by simp [Ab.cutL, Ab.which]
  have EA : Ab.cutL 1 ((0 : Nat) : Int) (A.length : Int) O (A ++ B) = A := by simp [Ab.cutL, Ab.which]
  have RO7 := hid (show Ab.Rd w7 (.slice ao7 O.length c7) O from Ab.own_rd (by have h := R7.out; rw [EO] at h; exact h))
  go_wp2_with (first
    | (go_at_call 79; refine (HR1.out _ b7).mono ?_; rintro e6 w6 ⟨ao6, c6, rfl, hr6, hb6⟩; have b6 := b7.trans (hb6.mono b7.size); have RO6 := hid (RO7.out.keep hb6); have RA6 := hid (show w6.ownsRow w7.heap.size 5 1 (.slice ao6 A.length c6) A.length (Ab.bv A) from by rw [EA] at hr6; exact hr6); clear hr6 c0 c1 c2; obtain ⟨c0, c1, c2, _, _, _⟩ := sh_cells (HS.out _ b6))
    | (go_at_call 18; refine (Ab.new_any _ O _ (by omega) RO6).mono ?_; rintro e5 w5 ⟨bb5, vo5, rfl, hB5, hb5⟩; have b5 := b6.trans (hb5.mono b6.size); have RA5 := hid (Ab.own_keep RA6.out hb5); have HB5 := hid hB5; clear hB5 c0 c1 c2; obtain ⟨c0, c1, c2, f0, f1, f2⟩ := sh_cells (HS.out _ b5)))
  have P5 := hid (HS.out _ b5)
  have Z5 := hid (sh_set0 P5.out (.pointer (some ⟨bb5, 0, none⟩)))
  have G5 := hid (buf_past HB5.out P5.out (.pointer (some ⟨bb5, 0, none⟩)))
  have A5 := hid (show Ab.Rd (w5.setCell ⟨sb, 0, none⟩ (.pointer (some ⟨bb5, 0, none⟩))) (.slice ao6 A.length c6) A from Ab.own_rd (own_same RA5.out fun k e hk => Z5.out.2.1 k (fun e' => Ab.own_ne RA5.out P5.out (by decide) (by rw [e, e']))))
  refine (Ab.add_any _ bb5 vo5 (.slice none 0 0) O [] w6.heap.size A _ G5.out (by simp; omega) A5.out).mono ?_
  rintro e4 w4 ⟨va4, rfl, hB4, ht4, ho4⟩
  have HB4 := hid hB4
  have HT4 := hid ht4
  have HO4 := hid ho4
  clear hB4 ht4 ho4 c0 c1 c2
  go_wp2
  have q5 : w9.heap.size ≤ w5.heap.size := b5.size
  have q6 : w9.heap.size ≤ w6.heap.size := b6.size
  have lsb : sb < w9.heap.size := sh_lt hSh.out.here
  obtain ⟨z1, z2, z3⟩ := Z5.out
  have lbb : w6.heap.size ≤ bb5 := HB4.out.lo
  have K : ∀ k, k < w9.heap.size → k ≠ sb → w4.heap[k]? = w9.heap[k]? := fun k hk hne => by
    rw [HT4.out.block k (by omega) (by omega) (by simp [Value.ownBlock]), z2 k hne]
    exact b5.block k hk
  go_end0
  refine ⟨⟨_, rfl⟩, bb5, vo5, va4, ⟨hSh.out.lo, ?_, ?_, ?_⟩, ?_, ?_, ?_, ?_, by omega, ?_, ?_, K⟩
  · rw [HT4.out.block sb (by omega) (by omega) (by simp [Value.ownBlock])]
    exact z1
  · have h := HB4.out
    rw [List.nil_append] at h
    refine buf_lower h ?_
    have := hSh.out.lo
    omega
  · refine Nods.at (fun b cs hb => ?_) hSh.out.tree
    rw [K b (sh_lt hb) (fun e => by rw [e, hSh.out.here] at hb; cases hb)]
    exact hb
  · rw [HT4.out.os]; exact b5.os
  · rw [HT4.out.tape]; exact b5.tape
  · rw [HT4.out.output]; exact b5.output
  · have := HT4.out.size
    omega
  · intro k hk
    have := own_ge HB4.out.added hk
    omega
  · intro k hk
    have := own_ge HB4.out.orig hk
    omega

end Go.Proofs.YtmhpeppbhjpkiaaGreat

