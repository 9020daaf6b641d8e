/- Proved: quoinlaw04.SheetFresh returns true for every text and every script, where what comes in is of bulk at most 1048576, and leaves its arguments as they were. (The texts Aw, Backk, Fits, Forget, Live, Lz, Apl, Act, NilWalk, Backw, Qst, Srows, Fr0, Len, Read, Check, Chkleft, Chkright, Chkeq, Chkne1, Chkne2, Chkne3, Check2, Wkit, Srow4, Fr, FreshProof in one.) -/
import Derived.Test.YtpifjghhlcjedaaAwp
import Derived.Test.YtpifjghhlcjedaaReadS
import Derived.Lib.BufferRead
import Derived.Test.YtpifjghhlcjedaaSame
import Derived.Test.YtpifjghhlcjedaaOut
import Derived.Test.YtpifjghhlcjedaaRows2
import Derived.Lib.Strings
import Derived.Lib.Slices
import Derived.Lib.Small
import Derived.Lib.Walk
import Derived.Lib.BitFns
import Derived.Test.YtpifjghhlcjedaaBuildAll
import Derived.ArgAppend
import Derived.Maps.AppendAt
import Derived.ProofKit
import Derived.OpenShut
import Derived.JoinedCond
import Derived.Deep.Matrix
import Derived.Lib.SmallJoins

namespace Go.Proofs.Ytpifjghhlcjedaa
open Go.RowKit

theorem PutR.ok {O A l : List UInt8} {t t' : Tr} {off : Int} (h : PutR O A l t off t') (hw : t.whole) (hg : Gds O A t.list) (hl : l ≠ []) (hz : (txt O A t.list).length + l.length ≤ 1048575) (hA : A.length + l.length ≤ 1048576) :
    t'.whole ∧ Gds O (A ++ l) t'.list ∧ txt O (A ++ l) t'.list = (txt O A t.list).take off.toNat ++ (l ++ (txt O A t.list).drop off.toNat) := by
  obtain ⟨T, U, T', q, b, hc, hj, rfl⟩ := h
  obtain ⟨p1, p2, p3, p4, p5, p6⟩ := put_pure hc hj hw hg hl hz hA
  rw [Tr.joinT_list]
  exact ⟨Tr.joinT_whole _ p1 p2, p3, p4⟩

theorem Chg.below_of {w W W' : World} {B sb bb : Nat} {row : Option Nat} (h : Below B w W) (hB : B ≤ W.heap.size) (hc : Chg W W' sb bb row) (h1 : B ≤ sb) (h2 : B ≤ bb) (h3 : ∀ k, row = some k → B ≤ k) : Below B w W' :=
  ⟨hc.os.trans h.os, hc.tape.trans h.tape, hc.output.trans h.output, Nat.le_trans h.size hc.size, fun k hk => by
    rw [hc.block k (by omega) (by omega) (by omega) (fun e => absurd (h3 k e.symm) (by omega))]; exact h.block k hk⟩

set_option maxHeartbeats 1000000 in
theorem Bytes_some (sb bb : Nat) (vo va : Value) (O A : List UInt8) (t : Tr) (a : Option Addr) (e : Int) (base n : Nat) (w : World) (hSh : Hid (Sh w base sb bb vo va O A t a e)) (hw : Hid t.whole) (hg : Hid (Gds O A t.list)) (hz : Hid ((txt O A t.list).length ≤ 1048576)) (hn : Hid ((txt O A t.list).length = n)) (hn0 : Hid (0 < n)) :
    Calls Try.prog 33 #[.pointer (some ⟨sb, 0, none⟩)] w fun e' w' => ∃ ao c, e' = .returned (.slice ao n c) ∧ w'.ownsRow w.heap.size 5 1 (.slice ao n c) n (Ab.bv (txt O A t.list)) ∧ Below w.heap.size w w' := by
  have hb : t.byt = (n : Int) := by rw [byt_list, ← txt_len hg.out, hn.out]
  have HL := hid (fun W (hW : Below w.heap.size w W) => sLen_any (some ⟨sb, 0, none⟩) a e t W (hSh.out.keep hW).sht (hSh.out.tree.keep hW))
  rw [hb] at HL
  have HR := hid (fun W (hW : Below w.heap.size w W) => read_some sb bb vo va O A t a e base 0 n W (hSh.out.keep hW) hw hg hz.out hn0.out (by rw [hn.out]; exact Nat.le_refl _))
  simp only [List.drop_zero, Nat.sub_zero] at HR
  rw [List.take_of_length_le (by rw [hn.out]; exact Nat.le_refl _)] at HR
  clear hb
  go_enter Try.func33, Try.ntmps33
  go_wp2_with (first | (go_at_call 34; refine (HL.out _ (Below.refl _ _)).mono ?_; rintro e9 w9 ⟨rfl, hb9⟩) | (go_at_call 73; refine (HR.out _ hb9).mono ?_; rintro e8 w8 ⟨ao, c, rfl, hr8, hb8⟩; have R8 := hid hr8; clear hr8))
  go_ret
  exact ⟨ao, c, rfl, Ab.own_lower R8.out hb9.size, hb9.trans (hb8.mono hb9.size)⟩

/-- 'string(p)' of bytes that can be read -/
theorem conv_rd {W : World} {v : Value} {l : List UInt8} (h : Ab.Rd W v l) : (convert 61 9 v).run Try.prog W = .ok (.string ⟨l.toArray⟩) W := by
  rcases h with ⟨rfl, rfl⟩ | ⟨a, c, rfl, hc⟩
  · exact Lib.run_convert_nil_bytes W 61 9 5 0 Try.underlying61 Try.underlying5 Try.underlying9
  · exact run_convert_bytes_back W 61 9 5 a c l Try.underlying61 Try.underlying5 Try.underlying9 (fun j hj => hc j _ (Ab.bv_at l j hj))

/-- a literal's bytes, in a new block -/
theorem rd_lit (w : World) (l : List UInt8) (C : Array Value) (m : Nat × Nat) (c : Nat) (hC : C.toList = Ab.bv l) : Ab.Rd (w.alloc (.cells C 5 m)) (.slice (some ⟨w.heap.size, 0, none⟩) l.length c) l := by
  refine .inr ⟨_, c, rfl, fun j u hu => ?_⟩
  have : (⟨w.heap.size, 0, none⟩ : Addr).add j = ⟨w.heap.size, j, none⟩ := by unfold Addr.add; split <;> simp_all
  rw [this, World.cell?_alloc_mark, ← Array.getElem?_toList, hC]; exact hu

set_option maxHeartbeats 4000000 in
theorem awake_any (w : World) : Calls Try.prog 25 #[] w fun e w' => e = .returned (.bool true) ∧ Below w.heap.size w w' := by
  have kc := fun (w : World) (C : Array Value) (n c : Nat) => Lib.run_convert_bytes_const (P := Try.prog) w 61 5 C n c Try.underlying61 Try.underlying5
  go_enter Try.func25, Try.ntmps25
  go_wp2_with fail
  refine (New_any _ 11 hw _ (by decide) (rd_lit w hw _ _ 11 rfl)).mono ?_
  rintro e w1 ⟨sb, bb, vo, a, t, rfl, hS, hN, hb1⟩
  have L1 : Below w.heap.size w w1 := (bAlloc (Below.refl _ _) _).trans (hb1.mono (by simp))
  generalize hbs : (w.alloc _).heap.size = base at hS
  have hlo : w.heap.size ≤ base := by rw [← hbs]; simp
  have HS := hid hS
  obtain ⟨o1, o2, o3, o4⟩ := hN.ok (by decide)
  have l0 := hid (hw_new hN)
  have O1 := hid o1
  have O2 := hid o2
  have O3 := hid o3
  clear hb1 hS hN o1 o2 o3 o4 hbs
  go_wp2_with fail
  refine (Insert_some sb bb vo (.slice none 0 0) hw [] t a 0 base ⟨w1.heap.size, 0, none⟩ 1 [44] 5 _ (hid (HS.out.keep (bAlloc (Below.refl _ _) _))) O1 O2 (hid (by rw [O3.out]; decide)) (hid (by decide)) (hid (rd_lit w1 [44] _ _ 1 rfl)) rfl (by decide) (by rw [byt_list, l0.out]; decide) (by decide)).mono ?_
  rintro e w2 ⟨rfl, w1', hb1', a2, va2, t2, hput, hS2, hc2, hown2⟩
  have L1' := (bAlloc L1 (.cells #[.int .u8 44] 5 (1, 2))).trans (hb1'.mono (bAlloc L1 _).size)
  have L2 : Below w.heap.size w w2 := Chg.below_of L1' L1'.size hc2 (Nat.le_trans hlo hS2.lo) (Nat.le_trans hlo hS2.buf.lo) (fun k hk => by cases hk)
  obtain ⟨p1, p2, p3⟩ := hput.ok O1.out O2.out (by simp) (by rw [O3.out]; decide) (by decide)
  obtain ⟨pa, pc, q1, q2, q3⟩ := hw_one l0.out hput
  rw [O3.out] at p3
  have hrow2 : ∀ k, va2.ownBlock = some k → w.heap.size ≤ k := fun k hk => by
    rcases hown2 with h | ⟨k', h, h'⟩
    · rw [h] at hk; cases hk
    · rw [h] at hk; cases hk; exact Nat.le_trans L1'.size h'
  have S2 := hid hS2
  have P1 := hid p1
  have P2 := hid p2
  have P3 := hid p3
  have Q1 := hid q1
  have HR2 := hid hrow2
  clear hput hS2 hc2 hown2 p1 p2 p3 q1 hrow2 HS O1 O2 O3 l0 hb1' L1 L1'
  go_wp2_with fail
  refine (Insert_some sb bb vo va2 hw ([] ++ [44]) t2 a2 (0 + 1) base ⟨w2.heap.size, 0, none⟩ 1 [33] 6 _ (hid (S2.out.keep (bAlloc (Below.refl _ _) _))) P1 P2 (hid (by rw [P3.out]; decide)) (hid (by decide)) (hid (rd_lit w2 [33] _ _ 1 rfl)) rfl (by decide) (by rw [byt_list, Q1.out]; simp [sB, q2, q3, newP]) (by decide)).mono ?_
  rintro e w3 ⟨rfl, w2', hb2', a3, va3, t3, hput, hS3, hc3, hown3⟩
  have L2' := (bAlloc L2 (.cells #[.int .u8 33] 5 (1, 2))).trans (hb2'.mono (bAlloc L2 _).size)
  have L3 : Below w.heap.size w w3 := Chg.below_of L2' L2'.size hc3 (Nat.le_trans hlo hS3.lo) (Nat.le_trans hlo hS3.buf.lo) HR2.out
  obtain ⟨p1, p2, p3⟩ := hput.ok P1.out P2.out (by simp) (by rw [P3.out]; decide) (by decide)
  have hsz := hw_two Q1.out q2 q3 hput
  rw [P3.out] at p3
  have htx : txt hw (([] ++ [44]) ++ [33]) t3.list = [104, 101, 108, 108, 111, 44, 33, 32, 119, 111, 114, 108, 100] := by rw [p3]; decide
  have S3 := hid hS3
  have R1 := hid p1
  have R2 := hid p2
  have HT := hid htx
  have HZ := hid hsz
  clear hput hS3 hc3 hown3 p1 p2 p3 htx hsz L2' hb2' L2 S2 P1 P2 P3 Q1 HR2
  have HB := hid (fun W (hW : Below w3.heap.size w3 W) => Bytes_some sb bb vo va3 hw (([] ++ [44]) ++ [33]) t3 a3 (0 + 1 + 1) base 13 W (S3.out.keep hW) R1 R2 (hid (by rw [HT.out]; decide)) (hid (by rw [HT.out]; rfl)) (hid (by decide)))
  rw [HT.out] at HB
  have HP := hid (fun W (hW : Below w3.heap.size w3 W) => Pieces_any (some ⟨sb, 0, none⟩) a3 (0 + 1 + 1) t3 W (S3.out.keep hW).sht (S3.out.tree.keep hW) (by rw [HZ.out]; decide))
  rw [HZ.out] at HP
  have HE := hid (fun W (hW : Below w3.heap.size w3 W) => edits_any (some ⟨sb, 0, none⟩) a3 (0 + 1 + 1) W (S3.out.keep hW).sht)
  have HW := hid (fun W (hW : Below w3.heap.size w3 W) => sRows_any (some ⟨sb, 0, none⟩) a3 (0 + 1 + 1) t3 W (S3.out.keep hW).sht (S3.out.tree.keep hW) (show t3.size ≤ 2097152 by rw [HZ.out]; decide))
  rw [HZ.out] at HW
  go_wp2_with (first
    | (go_at_call 33; refine (HB.out _ (Below.refl _ _)).mono ?_; rintro e w4 ⟨ao, c, rfl, hr4, hb4⟩; have cv := conv_rd (Ab.own_rd (l := [104, 101, 108, 108, 111, 44, 33, 32, 119, 111, 114, 108, 100]) hr4); clear hr4)
    | (go_at_call 31; refine (HP.out _ hb4).mono ?_; rintro e w5 ⟨ao5, c5, rfl, hr5, hb5⟩; have hb5' := hb4.trans (hb5.mono hb4.size); clear hr5 cv)
    | (go_at_call 38; refine (HE.out _ hb5').mono ?_; rintro e w6 ⟨rfl, hb6⟩; have hb6' := hb5'.trans (hb6.mono hb5'.size))
    | (go_at_call 30; refine (HW.out _ hb6').mono ?_; rintro e w7 ⟨ao7, c7, rfl, hr7, hb7⟩; have hb7' := hb6'.trans (hb7.mono hb6'.size); clear hr7))
  go_ret
  exact ⟨rfl, L3.trans (hb7'.mono L3.size)⟩

end Go.Proofs.Ytpifjghhlcjedaa

namespace Go.Proofs.Ytpifjghhlcjedaa
open Go.RowKit

set_option maxHeartbeats 400000 in
theorem putIn_none (p x : Value) (ao : Option Addr) (c : Nat) (w : World) : Calls Try.prog 78 #[p, x, .slice ao 0 c] w fun e' w' => (∃ r, e' = .returned r) ∧ Below w.heap.size w w' := by
  go_enter Try.func78, Try.ntmps78
  go_wp2
  refine bodyPost_ret (results_none rfl _ _ _) rfl ?_
  exact ⟨⟨_, rfl⟩, Below.refl _ _⟩

set_option maxHeartbeats 400000 in
theorem takeOut_none (p : Value) (x : Int) (w : World) : Calls Try.prog 79 #[p, .int .i64 x, .int .i64 x] w fun e' w' => (∃ r, e' = .returned r) ∧ Below w.heap.size w w' := by
  go_enter Try.func79, Try.ntmps79
  go_wp2
  refine bodyPost_ret (results_none rfl _ _ _) rfl ?_
  exact ⟨⟨_, rfl⟩, Below.refl _ _⟩

set_option maxHeartbeats 1000000 in
theorem Insert_empty (sb : Nat) (t : Tr) (a : Option Addr) (e : Int) (ao : Option Addr) (c : Nat) (off : Int) (w : World) (hS : Hid (ShT w (some ⟨sb, 0, none⟩) a e)) (hT : Hid (At w t a)) (h0 : 0 ≤ off) (h1 : off ≤ t.byt) :
    Calls Try.prog 41 #[.pointer (some ⟨sb, 0, none⟩), .int .i64 off, .slice ao 0 c] w fun e' w' => e' = .returned (.int .i64 0) ∧ Below w.heap.size w w' := by
  have hr : decide (0 ≤ off ∧ off ≤ off ∧ off ≤ t.byt) = true := by simp; omega
  have HR := hid (hasRange_any (some ⟨sb, 0, none⟩) a e t off off w hS hT)
  rw [hr] at HR
  go_enter Try.func41, Try.ntmps41
  go_wp2_with (first
    | (go_at_call 77; refine HR.out.mono ?_; rintro e9 w9 ⟨rfl, hb9⟩)
    | (go_at_call 78; refine (putIn_none _ _ _ _ _).mono ?_; rintro e8 w8 ⟨⟨r8, rfl⟩, hb8⟩))
  go_ret
  exact ⟨rfl, hb9.trans (hb8.mono hb9.size)⟩

set_option maxHeartbeats 1000000 in
theorem Delete_empty (sb : Nat) (t : Tr) (a : Option Addr) (e : Int) (off : Int) (w : World) (hS : Hid (ShT w (some ⟨sb, 0, none⟩) a e)) (hT : Hid (At w t a)) (h0 : 0 ≤ off) (h1 : off ≤ t.byt) :
    Calls Try.prog 42 #[.pointer (some ⟨sb, 0, none⟩), .int .i64 off, .int .i64 off] w fun e' w' => e' = .returned (.int .i64 0) ∧ Below w.heap.size w w' := by
  have hr : decide (0 ≤ off ∧ off ≤ off ∧ off ≤ t.byt) = true := by simp; omega
  have HR := hid (hasRange_any (some ⟨sb, 0, none⟩) a e t off off w hS hT)
  rw [hr] at HR
  go_enter Try.func42, Try.ntmps42
  go_wp2_with (first
    | (go_at_call 77; refine HR.out.mono ?_; rintro e9 w9 ⟨rfl, hb9⟩)
    | (go_at_call 79; refine (takeOut_none _ _ _).mono ?_; rintro e8 w8 ⟨⟨r8, rfl⟩, hb8⟩))
  go_ret
  exact ⟨rfl, hb9.trans (hb8.mono hb9.size)⟩

set_option maxHeartbeats 400000 in
theorem same_yes (u v : Value) (l : List UInt8) (w : World) (h1 : Ab.Rd w u l) (h2 : Ab.Rd w v l) : Calls Try.prog 32 #[u, v] w fun e w' => e = .returned (.bool true) ∧ Below w.heap.size w w' := by
  have k1 := conv_rd h1
  have k2 := conv_rd h2
  clear h1 h2
  go_enter Try.func32, Try.ntmps32
  go_wp2
  go_ret
  exact ⟨by simp, Below.refl _ _⟩

/-- All bytes of a sheet, whatever its text. -/
theorem Bytes_any' (sb bb : Nat) (vo va : Value) (O A : List UInt8) (t : Tr) (a : Option Addr) (e : Int) (base : Nat) (w : World) (hSh : Sh w base sb bb vo va O A t a e) (hw : t.whole) (hg : Gds O A t.list) (hz : (txt O A t.list).length ≤ 1048576) :
    Calls Try.prog 33 #[.pointer (some ⟨sb, 0, none⟩)] w fun e' w' => ∃ v, e' = .returned v ∧ Ab.Rd w' v (txt O A t.list) ∧ Below w.heap.size w w' := by
  rcases Nat.eq_zero_or_pos (txt O A t.list).length with h0 | h0
  · have hb : t.byt = 0 := by rw [byt_list, ← txt_len hg, h0]; rfl
    have HL := hid (sLen_any (some ⟨sb, 0, none⟩) a e t w hSh.sht hSh.tree)
    rw [hb] at HL
    have hnil : txt O A t.list = [] := List.eq_nil_of_length_eq_zero h0
    rw [hnil]
    clear hb h0 hnil hz hg hw hSh
    go_enter Try.func33, Try.ntmps33
    go_wp2_with (first | (go_at_call 34; refine HL.out.mono ?_; rintro e9 w9 ⟨rfl, hb9⟩) | (go_at_call 73; refine (read_none _ 0 _).mono ?_; rintro e8 w8 ⟨rfl, hb8⟩))
    go_ret
    exact ⟨_, rfl, .inl ⟨rfl, rfl⟩, hb9.trans (hb8.mono hb9.size)⟩
  · exact (Bytes_some sb bb vo va O A t a e base _ w (hid hSh) (hid hw) (hid hg) (hid hz) (hid rfl) (hid h0)).mono fun e' w' ⟨ao, c, h1, h2, h3⟩ => ⟨_, h1, Ab.own_rd h2, h3⟩

set_option maxHeartbeats 400000 in
theorem place_low (x : Int) (n : Nat) (w : World) (hx : x < 0) (hl : -9223372036854775808 ≤ x) (hn : 0 < n) (hz : n ≤ 1048577) : Calls Try.prog 40 #[.int .i64 x, .int .i64 n] w fun e w' => (∃ k : Nat, k < n ∧ e = .returned (.int .i64 k)) ∧ Below w.heap.size w w' := by
  have hne : ((n : Int) == 0) = false := by simp; omega
  go_enter Try.func40, Try.ntmps40
  go_wp2
  go_ret
  have h1 := Int.tmod_nonneg (n : Int) (a := -(x + 1)) (by omega)
  have h2 := Int.tmod_lt_of_pos (-(x + 1)) (b := (n : Int)) (by omega)
  refine ⟨⟨((-(x + 1)).tmod n).toNat, by omega, ?_⟩, Below.refl _ _⟩
  show Ending.returned (.int .i64 (-(x + 1).tmod n)) = _
  rw [Int.toNat_of_nonneg h1, Int.neg_tmod]

set_option maxHeartbeats 400000 in
theorem place_high (x : Int) (n : Nat) (w : World) (hx : 0 ≤ x) (hl : x ≤ 9223372036854775807) (hn : 0 < n) (hz : n ≤ 1048577) : Calls Try.prog 40 #[.int .i64 x, .int .i64 n] w fun e w' => (∃ k : Nat, k < n ∧ e = .returned (.int .i64 k)) ∧ Below w.heap.size w w' := by
  have hne : ((n : Int) == 0) = false := by simp; omega
  go_enter Try.func40, Try.ntmps40
  go_wp2
  go_ret
  have h1 := Int.emod_nonneg x (b := (n : Int)) (by omega)
  have h2 := Int.emod_lt_of_pos x (b := (n : Int)) (by omega)
  refine ⟨⟨(x % n).toNat, by omega, ?_⟩, Below.refl _ _⟩
  show Ending.returned (.int .i64 (x % n)) = _
  rw [Int.toNat_of_nonneg h1]

theorem place_any (x : Int) (n : Nat) (w : World) (h1 : -9223372036854775808 ≤ x) (h2 : x ≤ 9223372036854775807) (hn : 0 < n) (hz : n ≤ 1048577) : Calls Try.prog 40 #[.int .i64 x, .int .i64 n] w fun e w' => (∃ k : Nat, k < n ∧ e = .returned (.int .i64 k)) ∧ Below w.heap.size w w' := by
  rcases (by omega : x < 0 ∨ 0 ≤ x) with h | h
  · exact place_low x n w h h1 hn hz
  · exact place_high x n w h h2 hn hz

end Go.Proofs.Ytpifjghhlcjedaa

namespace Go.Proofs.Ytpifjghhlcjedaa
open Go.RowKit

set_option maxHeartbeats 400000 in
theorem equal_any (u v : Value) (l m : List UInt8) (w : World) (h1 : Ab.Rd w u l) (h2 : Ab.Rd w v m) : Calls Try.prog 109 #[u, v] w fun e w' => e = .returned (.bool (decide (l = m))) ∧ Below w.heap.size w w' := by
  have k1 := conv_rd h1
  have k2 := conv_rd h2
  clear h1 h2
  go_enter Try.func109, Try.ntmps109
  go_wp2
  go_ret
  refine ⟨?_, Below.refl _ _⟩
  simp
  by_cases h : l = m
  · simp [h]
  · simp [h]

set_option maxHeartbeats 2000000 in
theorem fits_high (p a : Option Addr) (e : Int) (t : Tr) (x : Int) (ao : Option Addr) (n c : Nat) (vn : Value) (w : World) (hS : Hid (ShT w p a e)) (hT : Hid (At w t a)) (hn : n ≤ 4611686018427387904) (hx0 : 0 ≤ x) (hb0 : 0 ≤ t.byt) (hb1 : t.byt ≤ 1048576) (hx : t.byt - n < x) :
    Calls Try.prog 81 #[.pointer p, .agg #[.int .i64 x, .slice ao n c, vn]] w fun e' w' => e' = .returned (.bool false) ∧ Below w.heap.size w w' := by
  have HL := hid (fun W (hW : Below w.heap.size w W) => sLen_any p a e t W (hS.out.keep hW) (hT.out.keep hW))
  have hx1 : decide (x < 0) = false := by simp; omega
  have hw1 : IntKind.i64.wrap (t.byt - n) = t.byt - n := by rw [IntKind.wrap_i64]; omega
  have hx2 : decide (t.byt - (n : Int) < x) = true := by simp; omega
  go_enter Try.func81, Try.ntmps81
  go_wp2
  have b9 := bAlloc (Below.refl w.heap.size w) (.cells #[.int .i64 x, .slice ao n c, vn] 69)
  have P9 := World.alloc_heap_new w (.cells #[.int .i64 x, .slice ao n c, vn] 69)
  generalize w.alloc (.cells #[.int .i64 x, .slice ao n c, vn] 69) = w9 at *
  obtain ⟨d0, d1, d2⟩ := three_cells P9
  have HP9 := hid P9
  clear P9
  go_region_held3 (fun w' => w'.cell? ⟨w.heap.size, 0, none⟩ = some (.int .i64 x) ∧ w'.cell? ⟨w.heap.size, 1, none⟩ = some (.slice ao n c)) (first | assumption | simp [*, go_sem])
    (first | (go_at_call 34; refine (HL.out _ b9.drew).mono ?_; rintro e5 w5 ⟨rfl, hb5⟩; have b5 := b9.trans ((bD hb5).mono b9.size); obtain ⟨d0, d1, d2⟩ := three_cells (((bD hb5).block _ (sh_lt HP9.out)).trans HP9.out)))
  go_wp2
  exact bodyPost_ret (v := .bool false) (by simp [results, Try.results81, go_sem]) rfl ⟨rfl, b5⟩

set_option linter.unusedSimpArgs false in
set_option maxHeartbeats 2000000 in
theorem fits_low (p ao : Option Addr) (x : Int) (n c : Nat) (vn : Value) (w : World) (hx : x < 0) :
    Calls Try.prog 81 #[.pointer p, .agg #[.int .i64 x, .slice ao n c, vn]] w fun e' w' => e' = .returned (.bool false) ∧ Below w.heap.size w w' := by
  have hx1 : decide (x < 0) = true := by simp; omega
  go_enter Try.func81, Try.ntmps81
  go_wp2
  have b9 := bAlloc (Below.refl w.heap.size w) (.cells #[.int .i64 x, .slice ao n c, vn] 69)
  have P9 := World.alloc_heap_new w (.cells #[.int .i64 x, .slice ao n c, vn] 69)
  generalize w.alloc (.cells #[.int .i64 x, .slice ao n c, vn] 69) = w9 at *
  obtain ⟨d0, d1, d2⟩ := three_cells P9
  clear P9
  refine wp_region_any (by kernel_rfl) ?_
  change wpAny _ _ _ _ _ _ _ (World.drew _)
  refine wpAny_ready (rs := [0]) (by kernel_rfl) (by simp) (AllReady.cons rfl (fun K hK => ?_) AllReady.nil)
  go_simp
  refine hK _ _ ?_
  clear hK K
  try simp only [Act.put, List.getElem_toArray, List.getElem_cons_zero, List.getElem_cons_succ, List.setIfInBounds_toArray, List.set_cons_zero, List.set_cons_succ]
  refine wpAny_ready (rs := [1]) (by kernel_rfl) (by simp) (AllReady.cons rfl (fun K hK => ?_) AllReady.nil)
  go_simp
  refine hK _ _ ?_
  clear hK K
  try simp only [Act.put, List.getElem_toArray, List.getElem_cons_zero, List.getElem_cons_succ, List.setIfInBounds_toArray, List.set_cons_zero, List.set_cons_succ]
  refine wpAny_take (i := 2) (v := .bool true) rfl (by kernel_rfl) (by kernel_rfl) (by kernel_rfl) (fun _ _ _ h => h) (Or.inl ⟨by kernel_rfl, fun w => by go_simp⟩) ?_
  try simp only [Act.put, List.getElem_toArray, List.getElem_cons_zero, List.getElem_cons_succ, List.setIfInBounds_toArray, List.set_cons_zero, List.set_cons_succ]
  refine wpAny_take (i := 3) (v := .bool true) rfl (by kernel_rfl) (by kernel_rfl) (by kernel_rfl) (fun _ _ _ h => h) (Or.inl ⟨by kernel_rfl, fun w => by go_simp⟩) ?_
  try simp only [Act.put, List.getElem_toArray, List.getElem_cons_zero, List.getElem_cons_succ, List.setIfInBounds_toArray, List.set_cons_zero, List.set_cons_succ]
  refine wpAny_take (i := 4) (v := undef) rfl (by kernel_rfl) (by kernel_rfl) (by kernel_rfl) (fun _ _ _ h => h) (Or.inr ⟨by kernel_rfl, rfl⟩) ?_
  try simp only [Act.put, List.getElem_toArray, List.getElem_cons_zero, List.getElem_cons_succ, List.setIfInBounds_toArray, List.set_cons_zero, List.set_cons_succ]
  refine wpAny_take (i := 5) (v := undef) rfl (by kernel_rfl) (by kernel_rfl) (by kernel_rfl) (fun _ _ _ h => h) (Or.inr ⟨by kernel_rfl, rfl⟩) ?_
  try simp only [Act.put, List.getElem_toArray, List.getElem_cons_zero, List.getElem_cons_succ, List.setIfInBounds_toArray, List.set_cons_zero, List.set_cons_succ]
  refine wpAny_take (i := 6) (v := undef) rfl (by kernel_rfl) (by kernel_rfl) (by kernel_rfl) (fun _ _ _ h => h) (Or.inr ⟨by kernel_rfl, rfl⟩) ?_
  try simp only [Act.put, List.getElem_toArray, List.getElem_cons_zero, List.getElem_cons_succ, List.setIfInBounds_toArray, List.set_cons_zero, List.set_cons_succ]
  refine wpAny_take (i := 7) (v := undef) rfl (by kernel_rfl) (by kernel_rfl) (by kernel_rfl) (fun _ _ _ h => h) (Or.inr ⟨by kernel_rfl, rfl⟩) ?_
  try simp only [Act.put, List.getElem_toArray, List.getElem_cons_zero, List.getElem_cons_succ, List.setIfInBounds_toArray, List.set_cons_zero, List.set_cons_succ]
  refine wpAny_take (i := 8) (v := undef) rfl (by kernel_rfl) (by kernel_rfl) (by kernel_rfl) (fun _ _ _ h => h) (Or.inr ⟨by kernel_rfl, rfl⟩) ?_
  try simp only [Act.put, List.getElem_toArray, List.getElem_cons_zero, List.getElem_cons_succ, List.setIfInBounds_toArray, List.set_cons_zero, List.set_cons_succ]
  refine wpAny_take (i := 9) (v := undef) rfl (by kernel_rfl) (by kernel_rfl) (by kernel_rfl) (fun _ _ _ h => h) (Or.inr ⟨by kernel_rfl, rfl⟩) ?_
  try simp only [Act.put, List.getElem_toArray, List.getElem_cons_zero, List.getElem_cons_succ, List.setIfInBounds_toArray, List.set_cons_zero, List.set_cons_succ]
  refine wpAny_take (i := 10) (v := undef) rfl (by kernel_rfl) (by kernel_rfl) (by kernel_rfl) (fun _ _ _ h => h) (Or.inr ⟨by kernel_rfl, rfl⟩) ?_
  try simp only [Act.put, List.getElem_toArray, List.getElem_cons_zero, List.getElem_cons_succ, List.setIfInBounds_toArray, List.set_cons_zero, List.set_cons_succ]
  refine wpAny_take (i := 11) (v := undef) rfl (by kernel_rfl) (by kernel_rfl) (by kernel_rfl) (fun _ _ _ h => h) (Or.inr ⟨by kernel_rfl, rfl⟩) ?_
  try simp only [Act.put, List.getElem_toArray, List.getElem_cons_zero, List.getElem_cons_succ, List.setIfInBounds_toArray, List.set_cons_zero, List.set_cons_succ]
  refine wpAny_take (i := 12) (v := undef) rfl (by kernel_rfl) (by kernel_rfl) (by kernel_rfl) (fun _ _ _ h => h) (Or.inr ⟨by kernel_rfl, rfl⟩) ?_
  try simp only [Act.put, List.getElem_toArray, List.getElem_cons_zero, List.getElem_cons_succ, List.setIfInBounds_toArray, List.set_cons_zero, List.set_cons_succ]
  refine wpAny_take (i := 13) (v := .bool true) rfl (by kernel_rfl) (by kernel_rfl) (by kernel_rfl) (fun _ _ _ h => h) (Or.inl ⟨by kernel_rfl, fun w => by go_simp⟩) ?_
  try simp only [Act.put, List.getElem_toArray, List.getElem_cons_zero, List.getElem_cons_succ, List.setIfInBounds_toArray, List.set_cons_zero, List.set_cons_succ]
  refine wpAny_done (by kernel_rfl) ?_ _
  go_wp2
  exact bodyPost_ret (v := .bool false) (by simp [results, Try.results81, go_sem]) rfl ⟨rfl, b9.drew⟩

/-- The bytes between two places. -/
theorem read_any (sb bb : Nat) (vo va : Value) (O A : List UInt8) (t : Tr) (a : Option Addr) (e : Int) (base : Nat) (x y : Nat) (w : World) (hSh : Hid (Sh w base sb bb vo va O A t a e)) (hw : Hid t.whole) (hg : Hid (Gds O A t.list)) (hz : (txt O A t.list).length ≤ 1048576) (hxy : x ≤ y) (hy : y ≤ (txt O A t.list).length) :
    Calls Try.prog 73 #[.pointer (some ⟨sb, 0, none⟩), .int .i64 (x : Int), .int .i64 (y : Int)] w fun e' w' => ∃ ao c, e' = .returned (.slice ao (y - x) c) ∧ w'.ownsRow w.heap.size 5 1 (.slice ao (y - x) c) (y - x) (Ab.bv (((txt O A t.list).drop x).take (y - x))) ∧ Below w.heap.size w w' := by
  rcases Nat.lt_or_ge x y with h | h
  · exact read_some sb bb vo va O A t a e base x y w hSh hw hg hz h hy
  · obtain rfl : x = y := by omega
    exact (read_none _ _ w).mono fun e' w' ⟨h1, h2⟩ => ⟨none, 0, by rw [h1, Nat.sub_self], by rw [Nat.sub_self, List.take_zero]; exact World.ownsRow_nil _ _ _ _, h2⟩

set_option maxHeartbeats 2000000 in
theorem fits_mid (sb bb : Nat) (vo va : Value) (O A : List UInt8) (t : Tr) (a : Option Addr) (e : Int) (base : Nat) (x : Nat) (ao : Option Addr) (c : Nat) (m : List UInt8) (vn : Value) (w : World) (hSh : Hid (Sh w base sb bb vo va O A t a e)) (hw : Hid t.whole) (hg : Hid (Gds O A t.list)) (hz : Hid ((txt O A t.list).length ≤ 1048576)) (hm : Hid (Ab.Rd w (.slice ao m.length c) m)) (hx : x + m.length ≤ (txt O A t.list).length) :
    Calls Try.prog 81 #[.pointer (some ⟨sb, 0, none⟩), .agg #[.int .i64 (x : Int), .slice ao m.length c, vn]] w fun e' w' => e' = .returned (.bool (decide (((txt O A t.list).drop x).take m.length = m))) ∧ Below w.heap.size w w' := by
  have hb := txt_len hg.out
  rw [← byt_list] at hb
  have hz' := hz.out
  have HL := hid (fun W (hW : Below w.heap.size w W) => sLen_any (some ⟨sb, 0, none⟩) a e t W (hid (hSh.out.keep hW).sht) (hSh.out.tree.keep hW))
  have HR := hid (fun W (hW : Below w.heap.size w W) => read_any sb bb vo va O A t a e base x (x + m.length) W (hid (hSh.out.keep hW)) hw hg hz' (by omega) hx)
  have hx1 : decide ((x : Int) < 0) = false := by simp
  have hlen := hid (show (((txt O A t.list).drop x).take m.length).length = m.length from by rw [List.length_take, List.length_drop]; omega)
  have hw1 : IntKind.i64.wrap (t.byt - m.length) = t.byt - m.length := by rw [IntKind.wrap_i64]; omega
  have hw2 : IntKind.i64.wrap ((x : Int) + m.length) = ((x + m.length : Nat) : Int) := by rw [IntKind.wrap_i64]; omega
  have hx2 : decide (t.byt - (m.length : Int) < x) = false := by simp; omega
  have hmm : x + m.length - x = m.length := by omega
  rw [hmm] at HR
  go_enter Try.func81, Try.ntmps81
  go_wp2
  have b9 := bAlloc (Below.refl w.heap.size w) (.cells #[.int .i64 (x : Int), .slice ao m.length c, vn] 69)
  have P9 := World.alloc_heap_new w (.cells #[.int .i64 (x : Int), .slice ao m.length c, vn] 69)
  generalize w.alloc (.cells #[.int .i64 (x : Int), .slice ao m.length c, vn] 69) = w9 at *
  obtain ⟨d0, d1, d2⟩ := three_cells P9
  have HP9 := hid P9
  clear P9
  go_region_held3 (fun w' => w'.cell? ⟨w.heap.size, 0, none⟩ = some (.int .i64 (x : Int)) ∧ w'.cell? ⟨w.heap.size, 1, none⟩ = some (.slice ao m.length c)) (first | assumption | simp [*, go_sem])
    (first | (go_at_call 34; refine (HL.out _ b9.drew).mono ?_; rintro e5 w5 ⟨rfl, hb5⟩; have b5 := b9.trans ((bD hb5).mono b9.size); have HP5 := hid (((bD hb5).block _ (sh_lt HP9.out)).trans HP9.out); clear d0 d1 d2; obtain ⟨d0, d1, d2⟩ := three_cells HP5.out))
  go_wp2
  go_region_held3 (fun w' => w'.cell? ⟨w.heap.size, 0, none⟩ = some (.int .i64 (x : Int)) ∧ w'.cell? ⟨w.heap.size, 1, none⟩ = some (.slice ao m.length c)) (first | assumption | simp [*, go_sem])
    (first | (go_at_call 73; refine (HR.out _ b5.drew).mono ?_; rintro e4 w4 ⟨ao4, c4, rfl, hr4, hb4⟩; have b4 := b5.trans ((bD hb4).mono b5.size); have R4 := hid (Ab.own_rd (l := ((txt O A t.list).drop x).take m.length) (by rw [hlen.out]; exact hr4)); have M4 := hid (hm.out.keep b4); have HP4 := hid (((bD hb4).block _ (sh_lt HP5.out)).trans HP5.out); clear hr4 d0 d1 d2; obtain ⟨d0, d1, d2⟩ := three_cells HP4.out)
           | (go_at_call 109; refine (equal_any _ _ (((txt O A t.list).drop x).take m.length) m _ R4.out M4.out).mono ?_; rintro e3 w3 ⟨rfl, hb3⟩; have b3 := b4.trans (hb3.mono b4.size); clear d0 d1 d2; obtain ⟨d0, d1, d2⟩ := three_cells ((hb3.block _ (sh_lt HP4.out)).trans HP4.out)))
  go_wp2
  exact bodyPost_ret (v := .bool (decide (((txt O A t.list).drop x).take m.length = m))) (by simp [results, Try.results81, go_sem]) rfl ⟨rfl, b3⟩

theorem fits_any (sb bb : Nat) (vo va : Value) (O A : List UInt8) (t : Tr) (a : Option Addr) (e : Int) (base : Nat) (x : Int) (ao : Option Addr) (c : Nat) (m : List UInt8) (vn : Value) (w : World) (hSh : Hid (Sh w base sb bb vo va O A t a e)) (hw : Hid t.whole) (hg : Hid (Gds O A t.list)) (hz : Hid ((txt O A t.list).length ≤ 1048576)) (hm : Hid (Ab.Rd w (.slice ao m.length c) m)) (hbig : m.length ≤ 4611686018427387904) :
    Calls Try.prog 81 #[.pointer (some ⟨sb, 0, none⟩), .agg #[.int .i64 x, .slice ao m.length c, vn]] w fun e' w' => e' = .returned (.bool (decide (0 ≤ x ∧ x + m.length ≤ (txt O A t.list).length ∧ ((txt O A t.list).drop x.toNat).take m.length = m))) ∧ Below w.heap.size w w' := by
  have hb := txt_len hg.out
  rw [← byt_list] at hb
  have hz' := hz.out
  rcases Int.lt_or_le x 0 with h | h
  · rw [show decide (0 ≤ x ∧ x + m.length ≤ (txt O A t.list).length ∧ ((txt O A t.list).drop x.toNat).take m.length = m) = false from by simp; omega]
    exact fits_low _ _ _ _ _ _ _ h
  · obtain ⟨k, rfl⟩ : ∃ k : Nat, x = k := ⟨x.toNat, by omega⟩
    rcases Nat.lt_or_ge (txt O A t.list).length (k + m.length) with h2 | h2
    · rw [show decide (0 ≤ (k : Int) ∧ (k : Int) + m.length ≤ (txt O A t.list).length ∧ ((txt O A t.list).drop (k : Int).toNat).take m.length = m) = false from by simp; omega]
      exact fits_high _ a e t _ _ _ _ _ w (hid hSh.out.sht) hSh.out.tree hbig h (by omega) (by omega) (by omega)
    · refine (fits_mid sb bb vo va O A t a e base k ao c m vn w hSh hw hg hz hm h2).mono ?_
      rintro e' w' ⟨rfl, hb'⟩
      refine ⟨?_, hb'⟩
      congr 3
      simp
      omega

end Go.Proofs.Ytpifjghhlcjedaa

namespace Go.Proofs.Ytpifjghhlcjedaa
open Go.RowKit

set_option maxHeartbeats 1000000 in
theorem forget_same (sb bb : Nat) (vo va : Value) (O A : List UInt8) (t : Tr) (a : Option Addr) (e : Int) (base : Nat) (w : World) (hSh : Hid (Sh w base sb bb vo va O A t a e)) :
    Calls Try.prog 82 #[.pointer (some ⟨sb, 0, none⟩), .int .i64 (A.length : Int)] w fun e' w' => (∃ r, e' = .returned r) ∧ Below w.heap.size w w' := by
  have HZ := hid (Ab.size_any (some ⟨bb, 0, none⟩) 1 O A base w (hid hSh.out.shb.buf))
  obtain ⟨c0, c1, c2, _, _, _⟩ := sh_cells hSh.out.here
  go_enter Try.func82, Try.ntmps82
  go_wp2_with (go_at_call 80; refine HZ.out.mono ?_; rintro e9 w9 ⟨rfl, rfl⟩; simp only [Ab.which])
  refine bodyPost_ret (results_none rfl _ _ _) rfl ?_
  exact ⟨⟨_, rfl⟩, Below.refl _ _⟩

theorem buf_lower {W : World} {base base' b : Nat} {vo va : Value} {O A : List UInt8} (h : Ab.BufAt W base b vo va O A) (hb : base' ≤ base) : Ab.BufAt W base' b vo va O A :=
  ⟨Nat.le_trans hb h.lo, h.here, Ab.own_lower h.orig hb, Ab.own_lower h.added hb, h.apart⟩

theorem sh_set0 {W : World} {sb : Nat} {x y z : Value} (h : W.heap[sb]? = some (.cells #[x, y, z] 113 (0, 0))) (x' : Value) :
    (W.setCell ⟨sb, 0, none⟩ x').heap[sb]? = some (.cells #[x', y, z] 113 (0, 0)) ∧ (∀ k, k ≠ sb → (W.setCell ⟨sb, 0, none⟩ x').heap[k]? = W.heap[k]?) ∧ (W.setCell ⟨sb, 0, none⟩ x').heap.size = W.heap.size := by
  refine ⟨?_, fun k hk => Below.heap_setCell _ _ _ _ hk, by show (W.heap.modify _ _).size = _; rw [Array.size_modify]⟩
  obtain ⟨hlt, hk'⟩ := Array.getElem?_eq_some_iff.1 h
  show (W.heap.modify sb _)[sb]? = _
  rw [Array.getElem?_eq_getElem (by rw [Array.size_modify]; exact hlt), Array.getElem_modify_self, hk']
  rfl

theorem buf_past {W : World} {base sb bb : Nat} {vo va : Value} {O A : List UInt8} {x y z : Value} (hB : Ab.BufAt W base bb vo va O A) (h : W.heap[sb]? = some (.cells #[x, y, z] 113 (0, 0))) (x' : Value) : Ab.BufAt (W.setCell ⟨sb, 0, none⟩ x') base bb vo va O A := by
  obtain ⟨_, s2, _⟩ := sh_set0 h x'
  refine ⟨hB.lo, (s2 bb (fun e => by have := hB.here; rw [e, h] at this; cases this)).trans hB.here, ?_, ?_, hB.apart⟩
  · exact own_same hB.orig fun k e hk => s2 k (fun e' => Ab.own_ne hB.orig h (by decide) (by rw [e, e']))
  · exact own_same hB.added fun k e hk => s2 k (fun e' => Ab.own_ne hB.added h (by decide) (by rw [e, e']))

set_option maxHeartbeats 2000000 in
theorem forget_more (sb bb : Nat) (vo va : Value) (O A B : List UInt8) (t : Tr) (a : Option Addr) (e : Int) (base : Nat) (w : World) (hSh : Hid (Sh w base sb bb vo va O (A ++ B) t a e)) (hO : O.length ≤ 1048576) (hA : A.length + B.length ≤ 1073741824) (hB : 1 ≤ B.length) :
    Calls Try.prog 82 #[.pointer (some ⟨sb, 0, none⟩), .int .i64 (A.length : Int)] w fun e' w' => (∃ r, e' = .returned r) ∧ ∃ bb' vo' va', Sh w' base sb bb' vo' va' O A t a e ∧ w'.os = w.os ∧ w'.tape = w.tape ∧ w'.output = w.output ∧ w.heap.size ≤ w'.heap.size ∧ w.heap.size ≤ bb' ∧ (∀ k, va'.ownBlock = some k → w.heap.size ≤ k) ∧ (∀ k, vo'.ownBlock = some k → w.heap.size ≤ k) ∧ ∀ k, k < w.heap.size → k ≠ sb → w'.heap[k]? = w.heap[k]? := by
  have HZ := hid (fun k W (hW : Below w.heap.size w W) => Ab.size_any (some ⟨bb, 0, none⟩) k O (A ++ B) base W (hid (hSh.out.keep hW).shb.buf))
  have HR0 := hid (fun W (hW : Below w.heap.size w W) => Ab.read_yes (some ⟨bb, 0, none⟩) 0 0 O.length O (A ++ B) base W (by simp [Ab.sndB]; omega) (by simp [Ab.which]) (by omega) (hid (hSh.out.keep hW).shb.buf))
  have HR1 := hid (fun W (hW : Below w.heap.size w W) => Ab.read_yes (some ⟨bb, 0, none⟩) 1 0 A.length O (A ++ B) base W (by simp [Ab.sndB]; omega) (by simp [Ab.which]) (by omega) (hid (hSh.out.keep hW).shb.buf))
  have HS := hid (fun W (hW : Below w.heap.size w W) => (hSh.out.keep hW).here)
  have hne : (((A ++ B).length : Int) == (A.length : Int)) = false := by simp; omega
  obtain ⟨c0, c1, c2, _, _, _⟩ := sh_cells hSh.out.here
  go_enter Try.func82, Try.ntmps82
  go_wp2_with (go_at_call 80; refine (HZ.out 1 _ (Below.refl _ _)).mono ?_; rintro e9 w9 ⟨rfl, rfl⟩; simp only [Ab.which])
  go_region_held3 (fun w' => w'.cell? ⟨sb, 0, none⟩ = some (.pointer (some ⟨bb, 0, none⟩))) (first | assumption | simp [*, go_sem])
    (first | (go_at_call 80; refine (HZ.out 0 _ (Below.refl _ _).drew).mono ?_; rintro e8 w8 ⟨rfl, rfl⟩; simp only [Ab.which]) | (go_at_call 100; refine (HR0.out _ (Below.refl _ _).drew).mono ?_; rintro e7 w7 ⟨ao7, c7, rfl, hr7, hb7⟩; have b7 := bD hb7; have R7 := hid hr7; clear hr7 c0 c1 c2; obtain ⟨c0, c1, c2, _, _, _⟩ := sh_cells (HS.out _ b7)))
  have EO : Ab.cutL 0 ((0 : Nat) : Int) (O.length : Int) O (A ++ B) = O := by simp [Ab.cutL, Ab.which]
  have EA : Ab.cutL 1 ((0 : Nat) : Int) (A.length : Int) O (A ++ B) = A := by simp [Ab.cutL, Ab.which]
  have RO7 := hid (show Ab.Rd w7 (.slice ao7 O.length c7) O from Ab.own_rd (by have h := R7.out; rw [EO] at h; exact h))
  go_wp2_with (first
    | (go_at_call 100; refine (HR1.out _ b7).mono ?_; rintro e6 w6 ⟨ao6, c6, rfl, hr6, hb6⟩; have b6 := b7.trans (hb6.mono b7.size); have RO6 := hid (RO7.out.keep hb6); have RA6 := hid (show w6.ownsRow w7.heap.size 5 1 (.slice ao6 A.length c6) A.length (Ab.bv A) from by rw [EA] at hr6; exact hr6); clear hr6 c0 c1 c2; obtain ⟨c0, c1, c2, _, _, _⟩ := sh_cells (HS.out _ b6))
    | (go_at_call 69; refine (Ab.new_any _ O _ (by omega) RO6).mono ?_; rintro e5 w5 ⟨bb5, vo5, rfl, hB5, hb5⟩; have b5 := b6.trans (hb5.mono b6.size); have RA5 := hid (Ab.own_keep RA6.out hb5); have HB5 := hid hB5; clear hB5 c0 c1 c2; obtain ⟨c0, c1, c2, f0, f1, f2⟩ := sh_cells (HS.out _ b5)))
  have P5 := hid (HS.out _ b5)
  have Z5 := hid (sh_set0 P5.out (.pointer (some ⟨bb5, 0, none⟩)))
  have G5 := hid (buf_past HB5.out P5.out (.pointer (some ⟨bb5, 0, none⟩)))
  have A5 := hid (show Ab.Rd (w5.setCell ⟨sb, 0, none⟩ (.pointer (some ⟨bb5, 0, none⟩))) (.slice ao6 A.length c6) A from Ab.own_rd (own_same RA5.out fun k e hk => Z5.out.2.1 k (fun e' => Ab.own_ne RA5.out P5.out (by decide) (by rw [e, e']))))
  refine (Ab.add_any _ bb5 vo5 (.slice none 0 0) O [] w6.heap.size A _ G5.out (by simp; omega) A5.out).mono ?_
  rintro e4 w4 ⟨va4, rfl, hB4, ht4, ho4⟩
  have HB4 := hid hB4
  have HT4 := hid ht4
  have HO4 := hid ho4
  clear hB4 ht4 ho4 c0 c1 c2
  go_wp2
  have q5 : w9.heap.size ≤ w5.heap.size := b5.size
  have q6 : w9.heap.size ≤ w6.heap.size := b6.size
  have lsb : sb < w9.heap.size := sh_lt hSh.out.here
  obtain ⟨z1, z2, z3⟩ := Z5.out
  have lbb : w6.heap.size ≤ bb5 := HB4.out.lo
  have K : ∀ k, k < w9.heap.size → k ≠ sb → w4.heap[k]? = w9.heap[k]? := fun k hk hne => by
    rw [HT4.out.block k (by omega) (by omega) (by simp [Value.ownBlock]), z2 k hne]
    exact b5.block k hk
  go_end0
  refine ⟨⟨_, rfl⟩, bb5, vo5, va4, ⟨hSh.out.lo, ?_, ?_, ?_⟩, ?_, ?_, ?_, ?_, by omega, ?_, ?_, K⟩
  · rw [HT4.out.block sb (by omega) (by omega) (by simp [Value.ownBlock])]
    exact z1
  · have h := HB4.out
    rw [List.nil_append] at h
    refine buf_lower h ?_
    have := hSh.out.lo
    omega
  · refine Nods.at (fun b cs hb => ?_) hSh.out.tree
    rw [K b (sh_lt hb) (fun e => by rw [e, hSh.out.here] at hb; cases hb)]
    exact hb
  · rw [HT4.out.os]; exact b5.os
  · rw [HT4.out.tape]; exact b5.tape
  · rw [HT4.out.output]; exact b5.output
  · have := HT4.out.size
    omega
  · intro k hk
    have := own_ge HB4.out.added hk
    omega
  · intro k hk
    have := own_ge HB4.out.orig hk
    omega

end Go.Proofs.Ytpifjghhlcjedaa

namespace Go.Proofs.Ytpifjghhlcjedaa
open Go.RowKit

/-- A sheet of text T behind edits since w. -/
structure Live (w W : World) (base sb bb : Nat) (vo va0 : Value) (O A T : List UInt8) (e : Int) : Prop where
  ex : ∃ va t a, Sh W base sb bb vo va O A t a e ∧ t.whole ∧ Gds O A t.list ∧ txt O A t.list = T ∧ (va.ownBlock = va0.ownBlock ∨ ∃ k, va.ownBlock = some k ∧ w.heap.size ≤ k)
  chg : Chg w W sb bb va0.ownBlock

theorem Chg.trans {w W W' : World} {sb bb : Nat} {r r' : Option Nat} (h : Chg w W sb bb r) (k : Chg W W' sb bb r') (hr : r' = r ∨ ∃ k, r' = some k ∧ w.heap.size ≤ k) : Chg w W' sb bb r :=
  ⟨k.os.trans h.os, k.tape.trans h.tape, k.output.trans h.output, Nat.le_trans h.size k.size, fun j hj h1 h2 h3 => by
    rw [k.block j (Nat.lt_of_lt_of_le hj h.size) h1 h2 (by
      rcases hr with rfl | ⟨q, rfl, hq⟩
      · exact h3
      · intro e; cases e; omega)]
    exact h.block j hj h1 h2 h3⟩

theorem Live.keep {w W W' : World} {base sb bb : Nat} {vo va0 : Value} {O A T : List UInt8} {e : Int} (h : Live w W base sb bb vo va0 O A T e) (hb : Below W.heap.size W W') : Live w W' base sb bb vo va0 O A T e := by
  obtain ⟨⟨va, t, a, h1, h2, h3, h4, h5⟩, hc⟩ := h
  exact ⟨⟨va, t, a, h1.keep hb, h2, h3, h4, h5⟩, hc.below hb⟩

theorem takeOut_live {w W : World} {base sb bb : Nat} {vo va0 : Value} {O A T : List UInt8} {e : Int} (x k : Nat) (h : Live w W base sb bb vo va0 O A T e) (hz : T.length ≤ 1048574) (hx : x + k ≤ T.length) (he : 0 ≤ e ∧ e ≤ 4611686018427387904) :
    Calls Try.prog 79 #[.pointer (some ⟨sb, 0, none⟩), .int .i64 (x : Int), .int .i64 ((x + k : Nat) : Int)] W fun e' w' => (∃ r, e' = .returned r) ∧ Live w w' base sb bb vo va0 O A (T.take x ++ T.drop (x + k)) (if k = 0 then e else e + 1) := by
  obtain ⟨⟨va, t, a, h1, h2, h3, rfl, h5⟩, hc⟩ := h
  rcases Nat.eq_zero_or_pos k with rfl | hk
  · refine (takeOut_none _ _ W).mono ?_
    rintro e' w' ⟨hr, hb⟩
    refine ⟨hr, ?_⟩
    rw [if_pos rfl, Nat.add_zero, List.take_append_drop]
    exact ⟨⟨va, t, a, h1.keep hb, h2, h3, rfl, h5⟩, hc.below hb⟩
  · have hb := txt_len h3
    rw [← byt_list] at hb
    refine (takeOut_some sb bb vo va O A t a e base x (x + k : Nat) W h1 h2 h3 hz (by simp; omega) (by omega) (by omega) (by omega) he).mono ?_
    rintro e' w' ⟨hr, a', t', ho, hs, hch⟩
    obtain ⟨o1, o2, o3⟩ := ho.ok h2 h3 (by omega) (by omega)
    rw [if_neg (by omega)]
    exact ⟨hr, ⟨va, t', a', hs, o1, o2, o3, h5⟩, hc.trans hch h5⟩

theorem putIn_live {w W : World} {base sb bb : Nat} {vo va0 : Value} {O A T : List UInt8} {e : Int} (x : Nat) (ao : Option Addr) (c : Nat) (l : List UInt8) (h : Live w W base sb bb vo va0 O A T e) (hz : T.length + l.length ≤ 1048575) (hA : A.length + l.length ≤ 1048576) (hx : x ≤ T.length) (he : 0 ≤ e ∧ e ≤ 4611686018427387904) (hv : Ab.Rd W (.slice ao l.length c) l) :
    Calls Try.prog 78 #[.pointer (some ⟨sb, 0, none⟩), .int .i64 (x : Int), .slice ao l.length c] W fun e' w' => (∃ r, e' = .returned r) ∧ Live w w' base sb bb vo va0 O (A ++ l) (T.take x ++ (l ++ T.drop x)) (if l.length = 0 then e else e + 1) := by
  obtain ⟨⟨va, t, a, h1, h2, h3, rfl, h5⟩, hc⟩ := h
  rcases Nat.eq_zero_or_pos l.length with hl | hl
  · obtain rfl : l = [] := List.length_eq_zero_iff.1 hl
    refine (putIn_none _ _ ao c W).mono ?_
    rintro e' w' ⟨hr, hb⟩
    refine ⟨hr, ?_⟩
    rw [if_pos hl, List.nil_append, List.take_append_drop, List.append_nil]
    exact ⟨⟨va, t, a, h1.keep hb, h2, h3, rfl, h5⟩, hc.below hb⟩
  · have hb := txt_len h3
    rw [← byt_list] at hb
    obtain ⟨ad, rfl⟩ : ∃ ad, ao = some ad := by
      rcases hv with ⟨hv, hn⟩ | ⟨ad, _, hv, _⟩
      · rw [hn] at hl; simp at hl
      · cases hv; exact ⟨ad, rfl⟩
    refine (putIn_some sb bb vo va O A t a e base ad c l x W h1 h2 h3 hz hA hv (by simp; intro h; subst h; simp at hl) (by omega) (by omega) he).mono ?_
    rintro e' w' ⟨hr, a', va', t', hp, hs, hch, ho⟩
    obtain ⟨o1, o2, o3⟩ := hp.ok h2 h3 (fun h => by subst h; simp at hl) hz hA
    rw [if_neg (by omega)]
    refine ⟨hr, ⟨va', t', a', hs, o1, o2, o3, ?_⟩, hc.trans hch h5⟩
    rcases ho with ho | ⟨q, hq, hq2⟩
    · rw [ho]; exact h5
    · exact .inr ⟨q, hq, Nat.le_trans hc.size hq2⟩

end Go.Proofs.Ytpifjghhlcjedaa

namespace Go.Proofs.Ytpifjghhlcjedaa
open Go.RowKit

theorem bTl {a b c : World} (h : Below a.heap.size a b) (k : Below b.heap.size b c) : Below a.heap.size a c := h.trans (k.mono h.size)
/-- an edit -/
structure Ed where
  at' : Int
  old : List UInt8
  new : List UInt8
def edB (T : List UInt8) (d : Ed) : Bool := decide (0 ≤ d.at' ∧ d.at' + d.old.length ≤ T.length ∧ (T.drop d.at'.toNat).take d.old.length = d.old)
def edT (T : List UInt8) (d : Ed) : List UInt8 := T.take d.at'.toNat ++ (d.new ++ T.drop (d.at'.toNat + d.old.length))
/-- edits of a text, one behind the other -/
def apT : List UInt8 → List Ed → Option (List UInt8)
  | T, [] => some T
  | T, d :: ds => if edB T d then apT (edT T d) ds else none
/-- the bytes that edits put in -/
def nsum : List Ed → Nat
  | [] => 0
  | d :: ds => d.new.length + nsum ds
theorem edT_len {T : List UInt8} {d : Ed} (h : edB T d = true) : (edT T d).length + d.old.length = T.length + d.new.length := by
  obtain ⟨h1, h2, -⟩ := of_decide_eq_true h
  unfold edT
  simp only [List.length_append, List.length_take, List.length_drop]
  omega

/-- All but the sheet, buffers and bytes stays. -/
def Stay (W W' : World) (sb : Nat) : Prop := ∀ (g : Nat) (cs : Array Value) (ty : TypeId), (ty ≠ 5 ∧ ty ≠ 140) → g ≠ sb → W.heap[g]? = some (.cells cs ty (0, 0)) → W'.heap[g]? = some (.cells cs ty (0, 0))
theorem Stay.of_below {W W' : World} (h : Below W.heap.size W W') (sb : Nat) : Stay W W' sb := fun g _ _ _ _ hg => (h.block g (sh_lt hg)).trans hg
theorem Stay.trans {a b c : World} {sb : Nat} (h : Stay a b sb) (k : Stay b c sb) : Stay a c sb := fun g cs ty ht hn hg => k g cs ty ht hn (h g cs ty ht hn hg)
theorem Stay.of_chg {W W' : World} {base sb bb : Nat} {vo va : Value} {O A : List UInt8} {t : Tr} {a : Option Addr} {e : Int} (hS : Sh W base sb bb vo va O A t a e) (hc : Chg W W' sb bb va.ownBlock) : Stay W W' sb := by
  intro g cs ty ht hn hg
  refine (hc.block g (sh_lt hg) hn (fun e => ?_) (fun e => ?_)).trans hg
  · subst e; rw [hS.buf.here] at hg; cases hg; exact absurd rfl ht.2
  · exact Ab.own_ne hS.buf.added hg ht.1 e
theorem Stay.at {W W' : World} {base sb bb : Nat} {vo va : Value} {O A : List UInt8} {t : Tr} {a : Option Addr} {e : Int} (hS : Sh W base sb bb vo va O A t a e) (h : Stay W W' sb) {t0 : Tr} {a0 : Option Addr} (ha : At W t0 a0) : At W' t0 a0 :=
  Nods.at (fun b cs hb => h b cs 137 (by decide) (fun e => by subst e; rw [hS.here] at hb; cases hb) hb) ha
theorem tri_cells {W : World} {b : Nat} {x y z : Value} {t : TypeId} (h : W.heap[b]? = some (.cells #[x, y, z] t (0, 0))) : W.cell? ⟨b, 0, none⟩ = some x ∧ W.cell? ⟨b, 1, none⟩ = some y ∧ W.cell? ⟨b, 2, none⟩ = some z := by
  simp [World.cell?, h]
/-- three cells stored -/
theorem set_three {W : World} {b : Nat} {x y z : Value} {t : TypeId} (h : W.heap[b]? = some (.cells #[x, y, z] t (0, 0))) (x' y' z' : Value) :
    (((W.setCell ⟨b, 0, none⟩ x').setCell ⟨b, 1, none⟩ y').setCell ⟨b, 2, none⟩ z').heap[b]? = some (.cells #[x', y', z'] t (0, 0)) ∧ (∀ k, k ≠ b → (((W.setCell ⟨b, 0, none⟩ x').setCell ⟨b, 1, none⟩ y').setCell ⟨b, 2, none⟩ z').heap[k]? = W.heap[k]?) ∧ (((W.setCell ⟨b, 0, none⟩ x').setCell ⟨b, 1, none⟩ y').setCell ⟨b, 2, none⟩ z').heap.size = W.heap.size := by
  have one : ∀ (V : World) (cs : Array Value) (i : Nat) (v : Value), V.heap[b]? = some (.cells cs t (0, 0)) → (V.setCell ⟨b, i, none⟩ v).heap[b]? = some (.cells (cs.setIfInBounds i v) t (0, 0)) := by
    intro V cs i v hV
    obtain ⟨hlt, hk'⟩ := Array.getElem?_eq_some_iff.1 hV
    show (V.heap.modify b _)[b]? = _
    rw [Array.getElem?_eq_getElem (by rw [Array.size_modify]; exact hlt), Array.getElem_modify_self, hk']
    rfl
  refine ⟨?_, ?_, ?_⟩
  · exact one _ _ 2 _ (one _ _ 1 _ (one _ _ 0 _ h))
  · intro k hk
    rw [Below.heap_setCell _ _ _ _ hk, Below.heap_setCell _ _ _ _ hk, Below.heap_setCell _ _ _ _ hk]
  · have sz : ∀ (V : World) (i : Nat) (v : Value), (V.setCell ⟨b, i, none⟩ v).heap.size = V.heap.size := fun V i v => by
      show (V.heap.modify _ _).size = _
      rw [Array.size_modify]
    rw [sz, sz, sz]
/-- A sheet's three cells stored back. -/
theorem sh_back {W : World} {base sb bb : Nat} {vo va : Value} {O A : List UInt8} {t : Tr} {a : Option Addr} {e : Int} (hS : Sh W base sb bb vo va O A t a e) {t0 : Tr} {a0 : Option Addr} (e0 : Int) (ht : At W t0 a0) :
    Sh (((W.setCell ⟨sb, 0, none⟩ (.pointer (some ⟨bb, 0, none⟩))).setCell ⟨sb, 1, none⟩ (.pointer a0)).setCell ⟨sb, 2, none⟩ (.int .i64 e0)) base sb bb vo va O A t0 a0 e0 := by
  obtain ⟨s1, s2, _⟩ := set_three hS.here (.pointer (some ⟨bb, 0, none⟩)) (.pointer a0) (.int .i64 e0)
  refine ⟨hS.lo, s1, ⟨hS.buf.lo, (s2 bb (fun e => by have := hS.buf.here; rw [e, hS.here] at this; cases this)).trans hS.buf.here, ?_, ?_, hS.buf.apart⟩, ?_⟩
  · exact own_same hS.buf.orig fun k e hk => s2 k (fun e' => Ab.own_ne hS.buf.orig hS.here (by decide) (by rw [e, e']))
  · exact own_same hS.buf.added fun k e hk => s2 k (fun e' => Ab.own_ne hS.buf.added hS.here (by decide) (by rw [e, e']))
  · exact Nods.at (fun b cs hb => by rw [s2 b (fun e => by subst e; rw [hS.here] at hb; cases hb)]; exact hb) ht
theorem below_set3 {w0 W : World} {sb : Nat} {x y z x' y' z' : Value} {t : TypeId} (h : W.heap[sb]? = some (.cells #[x, y, z] t (0, 0))) (hb : Below w0.heap.size w0 W) (hs : w0.heap.size ≤ sb) : Below w0.heap.size w0 (((W.setCell ⟨sb, 0, none⟩ x').setCell ⟨sb, 1, none⟩ y').setCell ⟨sb, 2, none⟩ z') := by
  obtain ⟨_, s2, s3⟩ := set_three h x' y' z'
  exact ⟨hb.os, hb.tape, hb.output, by rw [s3]; exact hb.size, fun k hk => (s2 k (by omega)).trans (hb.block k hk)⟩

theorem takeOut_st {w W : World} {base sb bb : Nat} {vo va0 : Value} {O A T : List UInt8} {e : Int} (x k : Nat) (h : Live w W base sb bb vo va0 O A T e) (hz : T.length ≤ 1048574) (hx : x + k ≤ T.length) (he : 0 ≤ e ∧ e ≤ 4611686018427387904) :
    Calls Try.prog 79 #[.pointer (some ⟨sb, 0, none⟩), .int .i64 (x : Int), .int .i64 ((x + k : Nat) : Int)] W fun e' w' => (∃ r, e' = .returned r) ∧ Live w w' base sb bb vo va0 O A (T.take x ++ T.drop (x + k)) (if k = 0 then e else e + 1) ∧ Stay W w' sb := by
  obtain ⟨⟨va, t, a, h1, h2, h3, rfl, h5⟩, hc⟩ := h
  rcases Nat.eq_zero_or_pos k with rfl | hk
  · refine (takeOut_none _ _ W).mono ?_
    rintro e' w' ⟨hr, hb⟩
    refine ⟨hr, ?_, Stay.of_below hb sb⟩
    rw [if_pos rfl, Nat.add_zero, List.take_append_drop]
    exact ⟨⟨va, t, a, h1.keep hb, h2, h3, rfl, h5⟩, hc.below hb⟩
  · have hb := txt_len h3
    rw [← byt_list] at hb
    refine (takeOut_some sb bb vo va O A t a e base x (x + k : Nat) W h1 h2 h3 hz (by simp; omega) (by omega) (by omega) (by omega) he).mono ?_
    rintro e' w' ⟨hr, a', t', ho, hs, hch⟩
    obtain ⟨o1, o2, o3⟩ := ho.ok h2 h3 (by omega) (by omega)
    rw [if_neg (by omega)]
    exact ⟨hr, ⟨⟨va, t', a', hs, o1, o2, o3, h5⟩, hc.trans hch h5⟩, Stay.of_chg h1 hch⟩

theorem putIn_st {w W : World} {base sb bb : Nat} {vo va0 : Value} {O A T : List UInt8} {e : Int} (x : Nat) (ao : Option Addr) (c : Nat) (l : List UInt8) (h : Live w W base sb bb vo va0 O A T e) (hz : T.length + l.length ≤ 1048575) (hA : A.length + l.length ≤ 1048576) (hx : x ≤ T.length) (he : 0 ≤ e ∧ e ≤ 4611686018427387904) (hv : Ab.Rd W (.slice ao l.length c) l) :
    Calls Try.prog 78 #[.pointer (some ⟨sb, 0, none⟩), .int .i64 (x : Int), .slice ao l.length c] W fun e' w' => (∃ r, e' = .returned r) ∧ Live w w' base sb bb vo va0 O (A ++ l) (T.take x ++ (l ++ T.drop x)) (if l.length = 0 then e else e + 1) ∧ Stay W w' sb := by
  obtain ⟨⟨va, t, a, h1, h2, h3, rfl, h5⟩, hc⟩ := h
  rcases Nat.eq_zero_or_pos l.length with hl | hl
  · obtain rfl : l = [] := List.length_eq_zero_iff.1 hl
    refine (putIn_none _ _ ao c W).mono ?_
    rintro e' w' ⟨hr, hb⟩
    refine ⟨hr, ?_, Stay.of_below hb sb⟩
    rw [if_pos hl, List.nil_append, List.take_append_drop, List.append_nil]
    exact ⟨⟨va, t, a, h1.keep hb, h2, h3, rfl, h5⟩, hc.below hb⟩
  · have hb := txt_len h3
    rw [← byt_list] at hb
    obtain ⟨ad, rfl⟩ : ∃ ad, ao = some ad := by
      rcases hv with ⟨hv, hn⟩ | ⟨ad, _, hv, _⟩
      · rw [hn] at hl; simp at hl
      · cases hv; exact ⟨ad, rfl⟩
    refine (putIn_some sb bb vo va O A t a e base ad c l x W h1 h2 h3 hz hA hv (by simp; intro h; subst h; simp at hl) (by omega) (by omega) he).mono ?_
    rintro e' w' ⟨hr, a', va', t', hp, hs, hch, ho⟩
    obtain ⟨o1, o2, o3⟩ := hp.ok h2 h3 (fun h => by subst h; simp at hl) hz hA
    rw [if_neg (by omega)]
    refine ⟨hr, ⟨⟨va', t', a', hs, o1, o2, o3, ?_⟩, hc.trans hch h5⟩, Stay.of_chg h1 hch⟩
    rcases ho with ho | ⟨q, hq, hq2⟩
    · rw [ho]; exact h5
    · exact .inr ⟨q, hq, Nat.le_trans hc.size hq2⟩

/-- A sheet as a law holds it: all that is its own lies above w0's memory. -/
structure Lz (w0 W : World) (sb : Nat) (O A T : List UInt8) (e : Int) : Prop where
  ex : ∃ bb vo va t a, Sh W w0.heap.size sb bb vo va O A t a e ∧ t.whole ∧ Gds O A t.list ∧ txt O A t.list = T
  bel : Below w0.heap.size w0 W
theorem Lz.keep {w0 W W' : World} {sb : Nat} {O A T : List UInt8} {e : Int} (h : Lz w0 W sb O A T e) (hb : Below W.heap.size W W') : Lz w0 W' sb O A T e := by
  obtain ⟨⟨bb, vo, va, t, a, h1, h2, h3, h4⟩, hc⟩ := h
  exact ⟨⟨bb, vo, va, t, a, h1.keep hb, h2, h3, h4⟩, bTl hc hb⟩
/-- Behind edits a sheet is one that a law holds. -/
theorem Live.lz {w0 w W : World} {sb bb : Nat} {vo va0 : Value} {O A A0 T : List UInt8} {e : Int} (h : Live w W w0.heap.size sb bb vo va0 O A T e) (hb : Below w0.heap.size w0 w) (hv : w.ownsRow w0.heap.size 5 1 va0 A0.length (Ab.bv A0)) : Lz w0 W sb O A T e := by
  obtain ⟨⟨va, t, a, h1, h2, h3, h4, h5⟩, hc⟩ := h
  exact ⟨⟨bb, vo, va, t, a, h1, h2, h3, h4⟩, Chg.below_of hb hb.size hc h1.lo h1.buf.lo (fun k hk => own_ge hv hk)⟩

/-- edits in memory -/
structure Eds (W : World) (ao : Option Addr) (es : List Ed) : Prop where
  cells : ∀ (i : Nat) (d : Ed), es[i]? = some d → ∃ g o a1 c1 a2 c2, ao = some ⟨g, o, none⟩ ∧ W.cell? ⟨g, o + i * 3, none⟩ = some (.int .i64 d.at') ∧ W.cell? ⟨g, o + i * 3 + 1, none⟩ = some (.slice a1 d.old.length c1) ∧ W.cell? ⟨g, o + i * 3 + 2, none⟩ = some (.slice a2 d.new.length c2) ∧ Ab.Rd W (.slice a1 d.old.length c1) d.old ∧ Ab.Rd W (.slice a2 d.new.length c2) d.new
theorem lt_cell {w : World} {a : Addr} {v : Value} (h : w.cell? a = some v) : a.block < w.heap.size := by
  rcases Nat.lt_or_ge a.block w.heap.size with h' | h'
  · exact h'
  · simp [World.cell?, Array.getElem?_eq_none h'] at h
theorem Eds.keep {W W' : World} {ao : Option Addr} {es : List Ed} (h : Eds W ao es) (hb : Below W.heap.size W W') : Eds W' ao es :=
  ⟨fun i d hd => by
    obtain ⟨g, o, a1, c1, a2, c2, h0, h1, h2, h3, h4, h5⟩ := h.cells i d hd
    exact ⟨g, o, a1, c1, a2, c2, h0, by rw [hb.cell (lt_cell h1)]; exact h1, by rw [hb.cell (lt_cell h2)]; exact h2, by rw [hb.cell (lt_cell h3)]; exact h3, h4.keep hb, h5.keep hb⟩⟩
end Go.Proofs.Ytpifjghhlcjedaa

namespace Go.Proofs.Ytpifjghhlcjedaa
open Go.RowKit

theorem nsum_drop {es : List Ed} {i : Nat} {d : Ed} (h : es[i]? = some d) : nsum (es.drop i) = d.new.length + nsum (es.drop (i + 1)) := by
  obtain ⟨hi, rfl⟩ := List.getElem?_eq_some_iff.1 h
  rw [List.drop_eq_getElem_cons hi]; rfl
theorem apT_drop {es : List Ed} {i : Nat} {d : Ed} (T : List UInt8) (h : es[i]? = some d) : apT T (es.drop i) = if edB T d then apT (edT T d) (es.drop (i + 1)) else none := by
  obtain ⟨hi, rfl⟩ := List.getElem?_eq_some_iff.1 h
  rw [List.drop_eq_getElem_cons hi]; rfl
/-- what Apply answers -/
def apE (o : Option (List UInt8)) : Ending := .returned (.int .i64 (if o.isSome then 0 else 170))
/-- the bytes that edits put in -/
def news : List Ed → List UInt8
  | [] => []
  | d :: ds => d.new ++ news ds

/-- what Apply leaves -/
def ApGave (w0 w' : World) (sb : Nat) (O A T : List UInt8) (e : Int) (es : List Ed) : Prop := match apT T es with
  | some T' => ∃ A' e2, Lz w0 w' sb O A' T' e2 ∧ A'.length = A.length + nsum es ∧ e ≤ e2 ∧ e2 ≤ e + 2 * es.length
  | none => Lz w0 w' sb O A T e
set_option maxHeartbeats 2000000 in
theorem Apply_any (w0 : World) (sb : Nat) (O A T : List UInt8) (e : Int) (ao : Option Addr) (c : Nat) (es : List Ed) (W : World) (hL : Lz w0 W sb O A T e) (hE : Hid (Eds w0 ao es)) (hO : O.length ≤ 1048576) (hz : Hid (T.length + nsum es ≤ 1048574)) (hA : Hid (A.length + nsum es ≤ 1048576)) (hold : Hid (∀ d ∈ es, d.old.length ≤ 1048576)) (he : Hid (0 ≤ e ∧ e + 2 * es.length ≤ 4611686018427387904)) (hm : Hid (es.length ≤ 1048576)) :
    Calls Try.prog 46 #[.pointer (some ⟨sb, 0, none⟩), .slice ao es.length c] W fun e' w' => e' = apE (apT T es) ∧ ApGave w0 w' sb O A T e es := by
  obtain ⟨⟨bb, vo, va, t, a, hS, hw, hg, hT⟩, hb0⟩ := hL
  have HS := hid hS
  have HW := hid hw
  have HG := hid hg
  have HT := hid hT
  have B0 := hid hb0
  clear hw hg hT hb0
  have HZ := hid (fun W' (hW : Below W.heap.size W W') => Ab.size_any (some ⟨bb, 0, none⟩) 1 O A w0.heap.size W' (hid (hS.keep hW).shb.buf))
  obtain ⟨c0, c1, c2, _, _, _⟩ := sh_cells hS.here
  have hlt : sb < W.heap.size := sh_lt hS.here
  have hmm : (es.length : Int) ≤ 1048576 := by have := hm.out; omega
  clear hS
  go_enter Try.func46, Try.ntmps46
  go_wp2_with fail
  go_region_held3 (fun w' => w'.cell? ⟨sb, 0, none⟩ = some (.pointer (some ⟨bb, 0, none⟩)) ∧ w'.cell? ⟨sb, 1, none⟩ = some (.pointer a) ∧ w'.cell? ⟨sb, 2, none⟩ = some (.int .i64 e)) (first | assumption | go_keep)
    (first | (go_at_call 80; refine (HZ.out _ (by first | exact (Below.refl _ _).drew | exact (bAlloc (Below.refl _ _) _).drew | exact ((((bAlloc (Below.refl _ _) _).setCell (Nat.le_refl _) _).setCell (Nat.le_refl _) _).setCell (Nat.le_refl _) _).drew)).mono ?_; rintro e9 w9 ⟨rfl, hw9⟩; have hq9 := hw9.symm; subst hq9; simp only [Ab.which]) | fail)
  all_goals
    obtain ⟨W1, hW1⟩ : ∃ X, X = (W.alloc (.cells #[.pointer (some ⟨bb, 0, none⟩), .pointer a, .int .i64 e] 113)).drew := ⟨_, rfl⟩
    have b1 : Below W.heap.size W W1 := by rw [hW1]; exact (bAlloc (Below.refl _ _) _).drew
    have hwas : W1.heap[W.heap.size]? = some (.cells #[.pointer (some ⟨bb, 0, none⟩), .pointer a, .int .i64 e] 113 (0, 0)) := by
      rw [hW1]
      show (W.heap.push _)[W.heap.size]? = _
      simp
    have HWAS := hid hwas
    have L1 := hid (show Live W W1 w0.heap.size sb bb vo va O (A ++ []) T e from (Live.keep ⟨⟨va, t, a, (by rw [List.append_nil]; exact HS.out), HW.out, (by rw [List.append_nil]; exact HG.out), (by rw [List.append_nil]; exact HT.out), .inl rfl⟩, Chg.of_below (Below.refl _ _) _ _ _⟩ b1))
    have BW1 := hid b1
    rw [← hW1]
    clear hW1 hwas b1 c0 c1 c2 HZ
    go_wp2_with fail
    go_loopw [21] (fun u wr => ∃ (i : Nat) (B T' : List UInt8) (e2 : Int), u = .int .i64 i ∧ i ≤ es.length ∧ Live W wr w0.heap.size sb bb vo va O (A ++ B) T' e2 ∧ apT T es = apT T' (es.drop i) ∧ T'.length + nsum (es.drop i) ≤ 1048574 ∧ B.length + nsum (es.drop i) = nsum es ∧ e ≤ e2 ∧ e2 ≤ e + 2 * i ∧ Stay W1 wr sb) (fun u _ => es.length - (intOf u).toNat)
    case atStart => exact ⟨0, [], T, e, rfl, Nat.zero_le _, L1.out, rfl, hz.out, by simp, Int.le_refl _, by simp, Stay.of_below (Below.refl _ _) _⟩
    case round =>
      obtain ⟨i, B, T', e2, rfl, hi, hL, hap, hT', hB', he1, he2, hst⟩ := hrel
      have HL := hid hL
      have HAP := hid hap
      have HST := hid hst
      have HBS := hid hB'
      clear hL hap hst hB'
      have hi0 : (0 : Int) ≤ (i : Int) := by omega
      have LZ := hid (HL.out.lz B0.out HS.out.buf.added)
      by_cases hlt' : i < es.length
      · obtain ⟨d, hd⟩ : ∃ d, es[i]? = some d := ⟨es[i], List.getElem?_eq_getElem hlt'⟩
        obtain ⟨g, o, a1, c1, a2, c2, rfl, z0, z1, z2, r1, r2⟩ := hE.out.cells i d hd
        have BZ := hid LZ.out.bel
        have hsz := HL.out.chg.size
        have x0 : wr.cell? ⟨g, o + i * 3, none⟩ = some (.int .i64 d.at') := by rw [BZ.out.cell (lt_cell z0)]; exact z0
        have x1 : wr.cell? ⟨g, o + i * 3 + 1, none⟩ = some (.slice a1 d.old.length c1) := by rw [BZ.out.cell (lt_cell z1)]; exact z1
        have x2 : wr.cell? ⟨g, o + i * 3 + 2, none⟩ = some (.slice a2 d.new.length c2) := by rw [BZ.out.cell (lt_cell z2)]; exact z2
        clear z0 z1 z2
        have HN := hid (nsum_drop hd)
        have HP := hid (apT_drop T' hd)
        have hod := hold.out d (List.mem_of_getElem? hd)
        have R1 := hid r1
        have R2 := hid r2
        clear r1 r2 hd
        have him : (i : Int) < (es.length : Int) := by omega
        have FT := hid (fun (X : Obj) => (show Calls Try.prog 81 #[.pointer (some ⟨sb, 0, none⟩), .agg #[.int .i64 d.at', .slice a1 d.old.length c1, .slice a2 d.new.length c2]] (wr.alloc X) fun e' w' => e' = .returned (.bool (edB T' d)) ∧ Below (wr.alloc X).heap.size (wr.alloc X) w' by
          obtain ⟨⟨va', t', a', h1, h2, h3, rfl, h5⟩, hc⟩ := HL.out
          exact fits_any sb bb vo va' O (A ++ B) t' a' e2 w0.heap.size d.at' a1 c1 d.old _ _ (h1.keep (bAlloc (Below.refl _ _) X)) h2 h3 (by have := HN.out; unfold Hid; omega) (hid ((R1.out.keep BZ.out).keep (bAlloc (Below.refl _ _) X))) (by omega)))
        go_wp2_with fail
        refine (FT.out _).mono ?_
        rintro e9 w2 ⟨rfl, hb2⟩
        have b2 := bTl (bAlloc (Below.refl wr.heap.size wr) _) hb2
        have hz2 : wr.heap.size < w2.heap.size := by have := hb2.size; simp at this; omega
        have HY := hid (show w2.heap[wr.heap.size]? = some (.cells #[.int .i64 d.at', .slice a1 d.old.length c1, .slice a2 d.new.length c2] 69 (0, 0)) by
          rw [hb2.block _ (by simp)]
          show (wr.heap.push _)[wr.heap.size]? = _
          simp)
        obtain ⟨y0, y1, y2⟩ := tri_cells HY.out
        have L2 := hid (HL.out.keep b2)
        have S2 := hid (HST.out.trans (Stay.of_below b2 sb))
        clear hb2 x0 x1 x2 LZ HL HST FT
        have B2 := hid b2
        clear b2
        cases hf : edB T' d with
        | true =>
          have hfit := of_decide_eq_true hf
          obtain ⟨x, hx⟩ : ∃ x : Nat, d.at' = x := ⟨d.at'.toNat, by omega⟩
          have hxl : x + d.old.length ≤ T'.length := by omega
          have HDL := hid (edT_len hf)
          have HPF := hid (show apT T es = apT (edT T' d) (es.drop (i + 1)) by rw [HAP.out, HP.out, hf]; rfl)
          have HXE := hid (show edT T' d = (T'.take x ++ T'.drop (x + d.old.length)).take x ++ (d.new ++ (T'.take x ++ T'.drop (x + d.old.length)).drop x) by
            unfold edT
            rw [hx, Int.toNat_natCast]
            have hk : (T'.take x).length = x := by rw [List.length_take]; omega
            rw [List.take_left' hk, List.drop_left' hk])
          rw [hx] at y0 HY
          clear hf hfit hx HP
          have hx1 : (x : Int) ≤ 1048576 := by omega
          have ho1 : (d.old.length : Int) ≤ 1048576 := by omega
          have hnn := HN.out
          have hbb := HBS.out
          have haa := hA.out
          go_wp2_with fail
          rw [show (x : Int) + (d.old.length : Int) = ((x + d.old.length : Nat) : Int) from by omega]
          refine (takeOut_st x d.old.length L2.out (by omega) hxl (by have := he.out; omega)).mono ?_
          rintro e9 w3 ⟨⟨r9, rfl⟩, hL3, hS3⟩
          have L3 := hid hL3
          have HE2 := hid (show 0 ≤ (if d.old.length = 0 then e2 else e2 + 1) ∧ e2 ≤ (if d.old.length = 0 then e2 else e2 + 1) ∧ (if d.old.length = 0 then e2 else e2 + 1) ≤ e2 + 1 by have := he.out; split <;> omega)
          have Y3 := hid (hS3 _ _ 69 (by decide) (by omega) HY.out)
          have S3 := hid (S2.out.trans hS3)
          have BZ3 := hid (L3.out.lz B0.out HS.out.buf.added).bel
          clear hL3 hS3 y0 y1 y2 L2 S2
          obtain ⟨y0, y1, y2⟩ := tri_cells Y3.out
          generalize (if d.old.length = 0 then e2 else e2 + 1) = e3 at L3 HE2
          have q1 : (T'.take x ++ T'.drop (x + d.old.length)).length = T'.length - d.old.length := by rw [List.length_append, List.length_take, List.length_drop]; omega
          have q2 : (A ++ B).length = A.length + B.length := List.length_append
          have q3 : 0 ≤ e3 ∧ e3 ≤ 4611686018427387904 := by have h1 := he.out; have h2 := HE2.out; omega
          have PT := hid (putIn_st x a2 c2 d.new L3.out (by rw [q1]; omega) (by rw [q2]; omega) (by rw [q1]; omega) q3 (R2.out.keep BZ3.out))
          clear q1 q2 q3
          go_wp2_with fail
          refine PT.out.mono ?_
          rintro e9 w4 ⟨⟨r8, rfl⟩, hL4, hS4⟩
          have HE3 := hid (show e3 ≤ (if d.new.length = 0 then e3 else e3 + 1) ∧ (if d.new.length = 0 then e3 else e3 + 1) ≤ e3 + 1 by split <;> omega)
          rw [← HXE.out, List.append_assoc] at hL4
          have L4 := hid hL4
          have S4 := hid (S3.out.trans hS4)
          clear hL4 hS4 y0 y1 y2 L3 S3
          generalize (if d.new.length = 0 then e3 else e3 + 1) = e4 at L4 HE3
          have hdl := HDL.out
          go_wp2
          go_roundw
          case rel => exact ⟨i + 1, B ++ d.new, edT T' d, e4, by go_num, by omega, L4.out, HPF.out, by omega, by rw [List.length_append]; omega, by have := HE2.out; have := HE3.out; omega, by have := HE2.out; have := HE3.out; omega, S4.out⟩
          case measure => first | (simp [intOf]; done) | (simp [intOf]; omega)
        | false =>
          have HF := hid (show apT T es = none by rw [HAP.out, HP.out, hf]; rfl)
          clear hf HP
          obtain ⟨⟨va2, t2, a2', k1, k2, k3, k4, k5⟩, kc⟩ := L2.out
          have K1 := hid k1
          have WAS := hid (S2.out _ _ 113 (by decide) (by omega) HWAS.out)
          have AT2 := hid (Stay.at (HS.out.keep BW1.out) S2.out (HS.out.keep BW1.out).tree)
          have BZ2 := hid (L2.out.lz B0.out HS.out.buf.added).bel
          have SB := hid (sh_back k1 e AT2.out)
          have BB := hid (fun x' y' z' => below_set3 (x' := x') (y' := y') (z' := z') k1.here BZ2.out k1.lo)
          obtain ⟨v0, v1, v2⟩ := tri_cells WAS.out
          obtain ⟨_, _, _, f0, f1, f2⟩ := sh_cells k1.here
          clear k1 k2 k3 k4 k5 kc y0 y1 y2
          go_wp2_with fail
          rcases Nat.eq_zero_or_pos B.length with hB0 | hB0
          · obtain rfl : B = [] := List.length_eq_zero_iff.1 hB0
            have SB' := SB.out
            rw [List.append_nil] at SB'
            refine (forget_same sb bb vo va2 O A t a e w0.heap.size _ SB').mono ?_
            rintro e9 w5 ⟨⟨r7, rfl⟩, hb5⟩
            have FIN := hid (show Lz w0 w5 sb O A T e from Lz.keep ⟨⟨bb, vo, va2, t, a, SB', HW.out, HG.out, HT.out⟩, BB.out _ _ _⟩ hb5)
            clear SB' hb5
            go_wp2
            go_ret
            exact ⟨by rw [HF.out]; rfl, by unfold ApGave; rw [HF.out]; exact FIN.out⟩
          · have hbb := HBS.out
            have haa := hA.out
            refine (forget_more sb bb vo va2 O A B t a e w0.heap.size _ SB hO (by omega) hB0).mono ?_
            rintro e9 w5 ⟨⟨r7, rfl⟩, bb5, vo5, va5, s5, k1, k2, k3, k4, k5, k6, k7, k8⟩
            have bz := BB.out (.pointer (some ⟨bb, 0, none⟩)) (.pointer a) (.int .i64 e)
            have FIN := hid (show Lz w0 w5 sb O A T e from ⟨⟨bb5, vo5, va5, t, a, s5, HW.out, HG.out, HT.out⟩, ⟨k1.trans bz.os, k2.trans bz.tape, k3.trans bz.output, Nat.le_trans bz.size k4, fun k hk => (k8 k (Nat.lt_of_lt_of_le hk bz.size) (by have := s5.lo; omega)).trans (bz.block k hk)⟩⟩)
            clear s5 k1 k2 k3 k4 k5 k6 k7 k8 bz
            go_wp2
            go_ret
            exact ⟨by rw [HF.out]; rfl, by unfold ApGave; rw [HF.out]; exact FIN.out⟩
      · obtain rfl : i = es.length := by omega
        have him : ¬ ((es.length : Int) < (es.length : Int)) := by omega
        have HF := hid (show apT T es = some T' by rw [HAP.out, List.drop_length]; rfl)
        have HBL : Hid (B.length = nsum es) := (by have := HBS.out; rw [List.drop_length] at this; unfold Hid; simpa [nsum] using this)
        go_wp2
        go_ret
        refine ⟨by rw [HF.out]; rfl, ?_⟩
        unfold ApGave
        rw [HF.out]
        exact ⟨A ++ B, e2, LZ.out, by rw [List.length_append, HBL.out], he1, he2⟩
end Go.Proofs.Ytpifjghhlcjedaa

namespace Go.Proofs.Ytpifjghhlcjedaa
open Go.RowKit

/-- a step of a script -/
structure Sq where
  kind : Int
  a : Int
  b : Int
  p : List UInt8
  es : List Ed
/-- what a step makes of a text; none: it is refused -/
def stT (T : List UInt8) (q : Sq) : Option (List UInt8) :=
  if q.kind = 0 then (if 0 ≤ q.a ∧ q.a ≤ T.length then some (T.take q.a.toNat ++ (q.p ++ T.drop q.a.toNat)) else none)
  else if q.kind = 1 then (if 0 ≤ q.a ∧ q.a ≤ q.b ∧ q.b ≤ T.length then some (T.take q.a.toNat ++ T.drop q.b.toNat) else none)
  else if q.kind = 2 then apT T q.es
  else some T
/-- the bytes that a step may put in; how many edits it is at most -/
def qby (q : Sq) : Nat := q.p.length + nsum q.es
def qed (q : Sq) : Nat := 1 + q.es.length
/-- what a step leaves -/
def StGave (w0 w' : World) (sb : Nat) (O A T : List UInt8) (e : Int) (o : Option (List UInt8)) (k n : Nat) : Prop := match o with
  | some T' => ∃ A' e2, Lz w0 w' sb O A' T' e2 ∧ A'.length ≤ A.length + k ∧ e ≤ e2 ∧ e2 ≤ e + 2 * (n : Int)
  | none => Lz w0 w' sb O A T e
theorem StGave.wide {w0 w' : World} {sb : Nat} {O A T : List UInt8} {e : Int} {o : Option (List UInt8)} {k n k' n' : Nat} (h : StGave w0 w' sb O A T e o k n) (hk : k ≤ k') (hn : n ≤ n') : StGave w0 w' sb O A T e o k' n' := by
  cases o with
  | none => exact h
  | some T' =>
    obtain ⟨A', e2, h1, h2, h3, h4⟩ := h
    exact ⟨A', e2, h1, by omega, h3, by omega⟩
def erZ (o : Option (List UInt8)) (z : Int) : Int := if o.isSome then 0 else z
def erE (o : Option (List UInt8)) (z : Int) : Ending := .returned (.int .i64 (erZ o z))
theorem erE_def (o : Option (List UInt8)) (z : Int) : erE o z = .returned (.int .i64 (erZ o z)) := rfl
theorem apE_er (o : Option (List UInt8)) : apE o = erE o 170 := rfl

theorem Lz.len {w0 W : World} {sb : Nat} {O A T : List UInt8} {e : Int} (h : Lz w0 W sb O A T e) (x y : Int) :
    Calls Try.prog 77 #[.pointer (some ⟨sb, 0, none⟩), .int .i64 x, .int .i64 y] W fun e' w' => e' = .returned (.bool (decide (0 ≤ x ∧ x ≤ y ∧ y ≤ (T.length : Int)))) ∧ Below W.heap.size W w' := by
  obtain ⟨⟨bb, vo, va, t, a, h1, h2, h3, rfl⟩, hb⟩ := h
  have := hasRange_any (some ⟨sb, 0, none⟩) a e t x y W h1.sht h1.tree
  rwa [show t.byt = ((txt O A t.list).length : Int) from by rw [byt_list, ← txt_len h3]] at this
theorem Lz.out {w0 W : World} {sb : Nat} {O A T : List UInt8} {e : Int} (x k : Nat) (h : Lz w0 W sb O A T e) (hz : T.length ≤ 1048574) (hx : x + k ≤ T.length) (he : 0 ≤ e ∧ e ≤ 4611686018427387904) :
    Calls Try.prog 79 #[.pointer (some ⟨sb, 0, none⟩), .int .i64 (x : Int), .int .i64 ((x + k : Nat) : Int)] W fun e' w' => (∃ r, e' = .returned r) ∧ ∃ e2, Lz w0 w' sb O A (T.take x ++ T.drop (x + k)) e2 ∧ e ≤ e2 ∧ e2 ≤ e + 1 := by
  obtain ⟨⟨bb, vo, va, t, a, h1, h2, h3, h4⟩, hb⟩ := h
  refine (takeOut_st (w := W) x k ⟨⟨va, t, a, h1, h2, h3, h4, .inl rfl⟩, Chg.of_below (Below.refl _ _) _ _ _⟩ hz hx he).mono ?_
  rintro e' w' ⟨hr, hl, -⟩
  exact ⟨hr, _, hl.lz hb h1.buf.added, by split <;> omega, by split <;> omega⟩
theorem Lz.into {w0 W : World} {sb : Nat} {O A T : List UInt8} {e : Int} (x : Nat) (ao : Option Addr) (c : Nat) (l : List UInt8) (h : Lz w0 W sb O A T e) (hz : T.length + l.length ≤ 1048575) (hA : A.length + l.length ≤ 1048576) (hx : x ≤ T.length) (he : 0 ≤ e ∧ e ≤ 4611686018427387904) (hv : Ab.Rd w0 (.slice ao l.length c) l) :
    Calls Try.prog 78 #[.pointer (some ⟨sb, 0, none⟩), .int .i64 (x : Int), .slice ao l.length c] W fun e' w' => (∃ r, e' = .returned r) ∧ ∃ e2, Lz w0 w' sb O (A ++ l) (T.take x ++ (l ++ T.drop x)) e2 ∧ e ≤ e2 ∧ e2 ≤ e + 1 := by
  obtain ⟨⟨bb, vo, va, t, a, h1, h2, h3, h4⟩, hb⟩ := h
  refine (putIn_st (w := W) x ao c l ⟨⟨va, t, a, h1, h2, h3, h4, .inl rfl⟩, Chg.of_below (Below.refl _ _) _ _ _⟩ hz hA hx he (hv.keep hb)).mono ?_
  rintro e' w' ⟨hr, hl, -⟩
  exact ⟨hr, _, hl.lz hb h1.buf.added, by split <;> omega, by split <;> omega⟩

set_option maxHeartbeats 1000000 in
theorem Insert_lz (w0 W : World) (sb : Nat) (O A T : List UInt8) (e : Int) (off : Int) (ao : Option Addr) (c : Nat) (l : List UInt8) (hL : Hid (Lz w0 W sb O A T e)) (hz : T.length + l.length ≤ 1048574) (hA : A.length + l.length ≤ 1048576) (he : 0 ≤ e ∧ e ≤ 4611686018427387904) (hv : Hid (Ab.Rd w0 (.slice ao l.length c) l)) :
    Calls Try.prog 41 #[.pointer (some ⟨sb, 0, none⟩), .int .i64 off, .slice ao l.length c] W fun e' w' => e' = erE (if 0 ≤ off ∧ off ≤ T.length then some (T.take off.toNat ++ (l ++ T.drop off.toNat)) else none) 30 ∧ StGave w0 w' sb O A T e (if 0 ≤ off ∧ off ≤ T.length then some (T.take off.toNat ++ (l ++ T.drop off.toNat)) else none) l.length 1 := by
  have HR := hid (hL.out.len off off)
  by_cases h : 0 ≤ off ∧ off ≤ T.length
  · rw [if_pos h]
    rw [decide_eq_true (show 0 ≤ off ∧ off ≤ off ∧ off ≤ (T.length : Int) by omega)] at HR
    obtain ⟨x, rfl⟩ := Int.eq_ofNat_of_zero_le h.1
    rw [Int.toNat_natCast]
    have hx : x ≤ T.length := by omega
    clear h
    generalize hR : some (T.take x ++ (l ++ T.drop x)) = R
    have HRR := hid hR
    clear hR
    go_enter Try.func41, Try.ntmps41
    go_wp2_with fail
    refine HR.out.mono ?_
    rintro e9 w1 ⟨rfl, hb1⟩
    have L1 := hid (hL.out.keep hb1)
    clear hb1
    go_wp2_with fail
    refine (L1.out.into x ao c l (by omega) hA hx he hv.out).mono ?_
    rintro e9 w2 ⟨⟨r, rfl⟩, e2, hl, k1, k2⟩
    have L2 := hid hl
    clear hl
    go_wp2
    go_ret
    refine ⟨by rw [← HRR.out]; rfl, ?_⟩
    rw [← HRR.out]
    exact ⟨_, e2, L2.out, by rw [List.length_append]; omega, k1, by omega⟩
  · rw [if_neg h]
    rw [decide_eq_false (show ¬ (0 ≤ off ∧ off ≤ off ∧ off ≤ (T.length : Int)) by omega)] at HR
    clear h
    go_enter Try.func41, Try.ntmps41
    go_wp2_with fail
    refine HR.out.mono ?_
    rintro e9 w1 ⟨rfl, hb1⟩
    have L1 := hid (hL.out.keep hb1)
    clear hb1
    go_wp2
    go_ret
    exact ⟨rfl, L1.out⟩

set_option maxHeartbeats 1000000 in
theorem Delete_lz (w0 W : World) (sb : Nat) (O A T : List UInt8) (e : Int) (x y : Int) (hL : Hid (Lz w0 W sb O A T e)) (hz : T.length ≤ 1048574) (he : 0 ≤ e ∧ e ≤ 4611686018427387904) :
    Calls Try.prog 42 #[.pointer (some ⟨sb, 0, none⟩), .int .i64 x, .int .i64 y] W fun e' w' => e' = erE (if 0 ≤ x ∧ x ≤ y ∧ y ≤ T.length then some (T.take x.toNat ++ T.drop y.toNat) else none) 30 ∧ StGave w0 w' sb O A T e (if 0 ≤ x ∧ x ≤ y ∧ y ≤ T.length then some (T.take x.toNat ++ T.drop y.toNat) else none) 0 1 := by
  have HR := hid (hL.out.len x y)
  by_cases h : 0 ≤ x ∧ x ≤ y ∧ y ≤ T.length
  · rw [if_pos h]
    rw [decide_eq_true h] at HR
    obtain ⟨x, rfl⟩ := Int.eq_ofNat_of_zero_le h.1
    obtain ⟨k, rfl⟩ : ∃ k : Nat, y = ((x + k : Nat) : Int) := ⟨(y - x).toNat, by omega⟩
    rw [Int.toNat_natCast, Int.toNat_natCast]
    have hx : x + k ≤ T.length := by omega
    clear h
    generalize hR : some (T.take x ++ T.drop (x + k)) = R
    have HRR := hid hR
    have HO := hid (fun W' (hL : Lz w0 W' sb O A T e) => hL.out x k hz hx he)
    clear hR
    generalize ((x + k : Nat) : Int) = y at *
    go_enter Try.func42, Try.ntmps42
    go_wp2_with fail
    refine HR.out.mono ?_
    rintro e9 w1 ⟨rfl, hb1⟩
    have L1 := hid (hL.out.keep hb1)
    clear hb1
    go_wp2_with fail
    refine (HO.out _ L1.out).mono ?_
    rintro e9 w2 ⟨⟨r, rfl⟩, e2, hl, k1, k2⟩
    have L2 := hid hl
    clear hl
    go_wp2
    go_ret
    refine ⟨by rw [← HRR.out]; rfl, ?_⟩
    rw [← HRR.out]
    exact ⟨_, e2, L2.out, by omega, k1, by omega⟩
  · rw [if_neg h]
    rw [decide_eq_false h] at HR
    clear h
    go_enter Try.func42, Try.ntmps42
    go_wp2_with fail
    refine HR.out.mono ?_
    rintro e9 w1 ⟨rfl, hb1⟩
    have L1 := hid (hL.out.keep hb1)
    clear hb1
    go_wp2
    go_ret
    exact ⟨rfl, L1.out⟩

/-- a step's rows in memory -/
structure Sqr (W : World) (q : Sq) (ap : Option Addr) (ae : Option Addr) (cp ce : Nat) : Prop where
  rp : Ab.Rd W (.slice ap q.p.length cp) q.p
  re : Eds W ae q.es

set_option maxHeartbeats 2000000 in
theorem act_any (w0 W : World) (sb : Nat) (O A T : List UInt8) (e : Int) (q : Sq) (ap ae : Option Addr) (cp ce : Nat) (hL : Hid (Lz w0 W sb O A T e)) (hq : Hid (Sqr w0 q ap ae cp ce)) (hO : O.length ≤ 1048576) (hz : T.length + qby q ≤ 1048574) (hA : A.length + qby q ≤ 1048576) (hold : Hid (∀ d ∈ q.es, d.old.length ≤ 1048576)) (he : Hid (0 ≤ e ∧ e + 2 * (qed q : Int) ≤ 4611686018427387904)) (hm : q.es.length ≤ 1048576) :
    Calls Try.prog 29 #[.pointer (some ⟨sb, 0, none⟩), .agg #[.int .i64 q.kind, .int .i64 q.a, .int .i64 q.b, .slice ap q.p.length cp, .slice ae q.es.length ce]] W fun e' w' => e' = erE (stT T q) (if q.kind = 2 then 170 else 30) ∧ StGave w0 w' sb O A T e (stT T q) (qby q) (qed q) := by
  obtain ⟨k, a, b, p, es⟩ := q
  unfold qby at hz hA
  unfold qed at he
  dsimp only at *
  by_cases h0 : k = 0
  · subst h0
    have HE := hid (show stT T ⟨0, a, b, p, es⟩ = if 0 ≤ a ∧ a ≤ T.length then some (T.take a.toNat ++ (p ++ T.drop a.toNat)) else none from rfl)
    have HI := hid (fun (X : Obj) => Insert_lz w0 (W.alloc X) sb O A T e a ap cp p (hid (hL.out.keep (bAlloc (Below.refl _ _) X))) (by omega) (by omega) (by have := he.out; omega) (hid hq.out.rp))
    rw [if_neg (by decide)]
    generalize stT T ⟨0, a, b, p, es⟩ = R at *
    rw [← HE.out] at HI
    clear HE
    go_enter Try.func29, Try.ntmps29
    go_wp2_with fail
    refine (HI.out _).mono ?_
    rintro e9 w1 ⟨rfl, hg⟩
    have HG := hid (hg.wide (k' := qby ⟨0, a, b, p, es⟩) (n' := qed ⟨0, a, b, p, es⟩) (by unfold qby; simp) (by unfold qed; simp))
    clear hg
    rw [erE_def]
    go_wp2
    go_ret
    exact ⟨rfl, HG.out⟩
  · by_cases h1 : k = 1
    · subst h1
      have HE := hid (show stT T ⟨1, a, b, p, es⟩ = if 0 ≤ a ∧ a ≤ b ∧ b ≤ T.length then some (T.take a.toNat ++ T.drop b.toNat) else none from rfl)
      have HI := hid (fun (X : Obj) => Delete_lz w0 (W.alloc X) sb O A T e a b (hid (hL.out.keep (bAlloc (Below.refl _ _) X))) (by omega) (by have := he.out; omega))
      rw [if_neg (by decide)]
      generalize stT T ⟨1, a, b, p, es⟩ = R at *
      rw [← HE.out] at HI
      clear HE h0
      go_enter Try.func29, Try.ntmps29
      go_wp2_with fail
      refine (HI.out _).mono ?_
      rintro e9 w1 ⟨rfl, hg⟩
      have HG := hid (hg.wide (k' := qby ⟨1, a, b, p, es⟩) (n' := qed ⟨1, a, b, p, es⟩) (by unfold qby; simp) (by unfold qed; simp))
      clear hg
      rw [erE_def]
      go_wp2
      go_ret
      exact ⟨rfl, HG.out⟩
    · by_cases h2 : k = 2
      · subst h2
        have HE := hid (show stT T ⟨2, a, b, p, es⟩ = apT T es from rfl)
        have HI := hid (fun (X : Obj) => Apply_any w0 sb O A T e ae ce es (W.alloc X) (hL.out.keep (bAlloc (Below.refl _ _) X)) (hid hq.out.re) hO (hid (by omega)) (hid (by omega)) hold (hid (by have := he.out; omega)) (hid hm))
        rw [if_pos rfl]
        have HG0 := hid (fun w' (h : ApGave w0 w' sb O A T e es) => (show StGave w0 w' sb O A T e (apT T es) (qby ⟨2, a, b, p, es⟩) (qed ⟨2, a, b, p, es⟩) by
          unfold ApGave at h
          cases hh : apT T es with
          | none => rw [hh] at h; exact h
          | some T' =>
            rw [hh] at h
            obtain ⟨A', e2, g1, g2, g3, g4⟩ := h
            exact ⟨A', e2, g1, by unfold qby; dsimp only; omega, g3, by unfold qed; dsimp only; omega⟩))
        rw [apE_er] at HI
        rw [HE.out]
        generalize apT T es = R at *
        clear HE h0 h1
        go_enter Try.func29, Try.ntmps29
        go_wp2_with fail
        refine (HI.out _).mono ?_
        rintro e9 w1 ⟨rfl, hg⟩
        have HG := hid (HG0.out _ hg)
        clear hg HG0
        rw [erE_def]
        go_wp2
        go_ret
        exact ⟨rfl, HG.out⟩
      · have HE := hid (show stT T ⟨k, a, b, p, es⟩ = some T by unfold stT; dsimp only; rw [if_neg h0, if_neg h1, if_neg h2])
        have L1 := hid (fun X => hL.out.keep (bAlloc (Below.refl _ _) X))
        rw [HE.out, if_neg h2]
        have q0 : (k == 0) = false := by simpa using h0
        have q1 : (k == 1) = false := by simpa using h1
        have q2 : (k == 2) = false := by simpa using h2
        clear HE h0 h1 h2
        go_enter Try.func29, Try.ntmps29
        go_wp2
        go_ret
        exact ⟨rfl, A, e, L1.out _, by omega, Int.le_refl _, by omega⟩
end Go.Proofs.Ytpifjghhlcjedaa

namespace Go.Proofs.Ytpifjghhlcjedaa
open Go.RowKit

theorem Pieces_nil (w : World) : Calls Try.prog 31 #[.pointer none] w fun e w' => ∃ ao cap, e = .returned (.slice ao 0 cap) ∧ Below w.heap.size w w' :=
  (Pieces_any none none 0 (Tr.mk none) w (nilT w) (nilA w) (by simp [Tr.size])).mono fun _ _ ⟨ao, cap, h1, _, h3⟩ => ⟨ao, cap, h1, h3⟩
theorem Rows_nil (w : World) : Calls Try.prog 30 #[.pointer none] w fun e w' => ∃ ao cap, e = .returned (.slice ao 0 cap) ∧ Below w.heap.size w w' :=
  (sRows_any none none 0 (Tr.mk none) w (nilT w) (nilA w) (show (Tr.mk none).size ≤ 2097152 by simp [Tr.size])).mono fun _ _ ⟨ao, cap, h1, _, h3⟩ => ⟨ao, cap, h1, h3⟩

theorem bT {w a b : World} (h : Below w.heap.size w a) (g : Below a.heap.size a b) : Below w.heap.size w b := h.trans (g.mono h.size)

set_option maxHeartbeats 4000000 in
theorem sheetNil_any (x : Int) (v : Value) (w : World) : Calls Try.prog 8 #[.int .i64 x, v] w fun e w' => e = .returned (.bool true) ∧ Below w.heap.size w w' := by
  have HA := hid awake_any
  have HI := hid Insert_nil
  have HD := hid Delete_nil
  have HY := hid Apply_nil
  have HB := hid Bytes_nil
  have HL := hid Len_nil
  have HN := hid Lines_nil
  have HE := hid edits_nil
  have HP := hid Pieces_nil
  have HR := hid Rows_nil
  have HS := hid Slice_nil
  have H0 := hid Start_nil0
  have H1 := hid Start_nil1
  have K0 := hid LineOf_nil0
  have K1 := hid LineOf_nil1
  have HY0 := hid Byte_nil
  go_enter Try.func8, Try.ntmps8
  go_wp2_with (first
    | (go_at_call 25; refine (HA.out _).mono ?_; rintro e w1 ⟨rfl, b1⟩)
    | (go_at_call 41; refine (HI.out _ _ _).mono ?_; rintro e w2 ⟨rfl, b2⟩)
    | (go_at_call 42; refine (HD.out _ _ _).mono ?_; rintro e w3 ⟨rfl, b3⟩)
    | (go_at_call 46; refine (HY.out _ _).mono ?_; rintro e w4 ⟨rfl, b4⟩)
    | (go_at_call 33; refine (HB.out _).mono ?_; rintro e w5 ⟨rfl, b5⟩)
    | (go_at_call 34; refine (HL.out _).mono ?_; rintro e w6 ⟨rfl, b6⟩)
    | (go_at_call 35; refine (HN.out _).mono ?_; rintro e w7 ⟨rfl, b7⟩)
    | (go_at_call 38; refine (HE.out _).mono ?_; rintro e w8 ⟨rfl, b8⟩)
    | (go_at_call 31; refine (HP.out _).mono ?_; rintro e w9 ⟨a9, c9, rfl, b9⟩)
    | (go_at_call 30; refine (HR.out _).mono ?_; rintro e w10 ⟨a10, c10, rfl, b10⟩)
    | (go_at_call 44; refine (HS.out _).mono ?_; rintro e w11 ⟨rfl, b11⟩)
    | (go_at_call_of 47 (Value.int IntKind.i64 0); refine (H0.out _).mono ?_; rintro e w12 ⟨rfl, b12⟩)
    | (go_at_call 47; refine (H1.out _).mono ?_; rintro e w13 ⟨rfl, b13⟩)
    | (go_at_call_of 48 (Value.int IntKind.i64 0); refine (K0.out _).mono ?_; rintro e w14 ⟨rfl, b14⟩)
    | (go_at_call 49; refine (HY0.out _).mono ?_; rintro e w15 ⟨rfl, b15⟩)
    | (go_at_call 48; refine (K1.out _).mono ?_; rintro e w16 ⟨rfl, b16⟩))
  go_ret
  exact ⟨rfl, bT (bT (bT (bT (bT (bT (bT (bT (bT (bT (bT (bT (bT (bT (bT b1 b2) b3) b4) b5) b6) b7) b8) b9) b10) b11) b12) b13) b14) b15) b16⟩

end Go.Proofs.Ytpifjghhlcjedaa

namespace Go.Proofs.Ytpifjghhlcjedaa
open Go.RowKit

/-- A row of spans lies on where a sheet changes. -/
theorem own_chg {W W' : World} {base sb bb : Nat} {vo va : Value} {O A : List UInt8} {t : Tr} {a : Option Addr} {e : Int} (hS : Sh W base sb bb vo va O A t a e) (hc : Chg W W' sb bb va.ownBlock) {B n : Nat} {v : Value} {xs : List Value} (h : W.ownsRow B 30 3 v n xs) : W'.ownsRow B 30 3 v n xs := by
  rcases h.2 with ⟨rfl, h0⟩ | ⟨g, cap, cur, rfl, h1, h2, h3⟩
  · exact ⟨h.1, .inl ⟨rfl, h0⟩⟩
  · refine ⟨h.1, .inr ⟨g, cap, cur, rfl, h1, ?_, h3⟩⟩
    refine (hc.block g (sh_lt h2) (fun e => ?_) (fun e => ?_) (fun e => ?_)).trans h2
    · subst e; rw [hS.here] at h2; cases h2
    · subst e; rw [hS.buf.here] at h2; cases h2
    · exact Ab.own_ne hS.buf.added h2 (by decide) e

theorem ins_del (l1 l2 : List UInt8) (k : Nat) (h : k ≤ l1.length) : (l1.take k ++ (l2 ++ l1.drop k)).take k ++ (l1.take k ++ (l2 ++ l1.drop k)).drop (k + l2.length) = l1 := by
  have hk : (l1.take k).length = k := by rw [List.length_take]; omega
  have e1 : (l1.take k ++ (l2 ++ l1.drop k)).take k = l1.take k := List.take_left' hk
  have e2 : (l1.take k ++ (l2 ++ l1.drop k)).drop (k + l2.length) = l1.drop k := by rw [← List.append_assoc]; exact List.drop_left' (by rw [List.length_append, hk])
  rw [e1, e2, List.take_append_drop]

set_option maxHeartbeats 4000000 in
/-- Something is put in. -/
theorem sheetBack_some (a1 : Option Addr) (c1 : Nat) (l1 : List UInt8) (x : Int) (a2 : Addr) (c2 : Nat) (l2 : List UInt8) (w : World) (h1 : Hid (Ab.Rd w (.slice a1 l1.length c1) l1)) (h2 : Hid (Ab.Rd w (.slice (some a2) l2.length c2) l2)) (hx1 : -9223372036854775808 ≤ x) (hx2 : x ≤ 9223372036854775807) (hz : l1.length + l2.length ≤ 1048573) (hl : ((l2.length : Int) == 0) = false) :
    Calls Try.prog 6 #[.slice a1 l1.length c1, .int .i64 x, .slice (some a2) l2.length c2] w fun e w' => e = .returned (.bool true) ∧ Below w.heap.size w w' := by
  have HA := hid awake_any
  have hl2 : l2 ≠ [] := fun e => by subst e; simp at hl
  have HL2 := hid hl2
  have HP := hid (fun W => place_any x (l1.length + 1) W hx1 hx2 (by omega) (by omega))
  simp only [Int.natCast_add, Int.cast_ofNat_Int] at HP
  clear hl2
  go_enter Try.func6, Try.ntmps6
  go_wp2_with (first
    | (go_at_call 25; refine (HA.out _).mono ?_; rintro e w1 ⟨rfl, b1⟩)
    | (go_at_call 26; refine (New_any a1 c1 l1 _ (by omega) (hid (h1.out.keep b1))).mono ?_; rintro e w2 ⟨sb, bb, vo, a, t, rfl, hS, hN, b2⟩; have HS := hid hS; have HN := hid hN; have L2 := bT b1 b2; clear hS hN)
    | (go_at_call 40; refine (HP.out _).mono ?_; rintro e w3 ⟨⟨k, hk, rfl⟩, b3⟩; have L3 := bT L2 b3; have S3 := hid (HS.out.keep b3)))
  obtain ⟨o1, o2, o3, o4⟩ := HN.out.ok (by omega)
  have hsz : t.size ≤ 1 := by rw [← t.size_list]; exact o4
  have hbt : t.byt = (l1.length : Int) := by rw [byt_list, ← txt_len o2, o3]
  have O1 := hid o1
  have O2 := hid o2
  have O3 := hid o3
  have HBT := hid hbt
  have hlo := b1.size
  clear o1 o2 o3 o4 hbt b1 b2 b3 L2 HS
  refine (Pieces_any (some ⟨sb, 0, none⟩) a 0 t w3 S3.out.sht S3.out.tree (by omega)).mono ?_
  rintro e w4 ⟨ao4, cp4, rfl, hr4, hb4⟩
  have L4 := bT L3 hb4
  have S4 := hid (S3.out.keep hb4)
  have R4 := hid hr4
  clear hr4 hb4 S3
  go_wp2_with fail
  refine (Insert_some sb bb vo (.slice none 0 0) l1 [] t a 0 w1.heap.size a2 c2 l2 (k : Int) _ S4 O1 O2 (hid (by rw [O3.out]; omega)) (hid (by simp; omega)) (hid (h2.out.keep L4)) hl (by omega) (by rw [HBT.out]; omega) (by decide)).mono ?_
  rintro e w5 ⟨rfl, w4', hb4', a5, va5, t5, hput, hS5, hc5, hown5⟩
  have L4' := bT L4 hb4'
  have L5 : Below w.heap.size w w5 := Chg.below_of L4' L4'.size hc5 (Nat.le_trans hlo hS5.lo) (Nat.le_trans hlo hS5.buf.lo) (fun k hk => by cases hk)
  have R5 := hid (own_chg (S4.out.keep hb4') hc5 (Ab.own_keep R4.out hb4'))
  have hput' := hput
  obtain ⟨p1, p2, p3⟩ := hput.ok O1.out O2.out HL2.out (by rw [O3.out]; omega) (by simp; omega)
  rw [O3.out] at p3
  have hl5 : (txt l1 ([] ++ l2) t5.list).length = l1.length + l2.length := by rw [p3]; simp; omega
  have hbt5 : t5.byt = (l1.length : Int) + l2.length := by rw [byt_list, ← txt_len p2, hl5]; push_cast; rfl
  have S5 := hid hS5
  have P1 := hid p1
  have P2 := hid p2
  have P3 := hid p3
  have HL5 := hid hl5
  have HB5 := hid hbt5
  have HPT := hid hput'
  clear hput hput' hS5 hc5 hown5 p1 p2 p3 hl5 hbt5 L4' hb4' R4 S4
  have HLen := hid (sLen_any (some ⟨sb, 0, none⟩) a5 (0 + 1) t5 w5 S5.out.sht S5.out.tree)
  rw [HB5.out] at HLen
  go_wp2_with (go_at_call 34; refine HLen.out.mono ?_; rintro e w6 ⟨rfl, hb6⟩; have L6 := bT L5 hb6; have S6 := hid (S5.out.keep hb6); have R6 := hid (Ab.own_keep R5.out hb6); clear hb6)
  refine (Delete_some sb bb vo va5 l1 ([] ++ l2) t5 a5 (0 + 1) w1.heap.size (k : Int) ((k : Int) + l2.length) _ S6 P1 P2 (hid (by rw [HL5.out]; omega)) (by have := List.length_pos_iff.2 HL2.out; simp; omega) (by omega) (by omega) (by rw [HB5.out]; omega) (by decide)).mono ?_
  rintro e w7 ⟨rfl, w6', hb6', a7, t7, hout, hS7, hc7⟩
  have L6' := bT L6 hb6'
  have L7 : Below w.heap.size w w7 := Chg.below_of L6' L6'.size hc7 (Nat.le_trans hlo hS7.lo) (Nat.le_trans hlo hS7.buf.lo) (fun q hq => Nat.le_trans hlo (own_ge hS7.buf.added hq))
  have R7 := hid (own_chg (S6.out.keep hb6') hc7 (Ab.own_keep R6.out hb6'))
  have hsp := back_spans HN.out HPT.out hout P2.out P1.out (by omega) (by omega) (by rw [HBT.out]; omega)
  obtain ⟨q1, q2, q3⟩ := hout.ok P1.out P2.out (by rw [HL5.out]; omega) (by omega)
  have htx : txt l1 ([] ++ l2) t7.list = l1 := by
    rw [q3, P3.out]
    have e1 : ((k : Int)).toNat = k := by omega
    have e2 : ((k : Int) + l2.length).toNat = k + l2.length := by omega
    rw [e1, e2]
    exact ins_del l1 l2 k (by omega)
  have hz7 : t7.size = t.size := by rw [← t7.size_list, ← t.size_list]; have := congrArg List.length hsp; simpa using this
  have S7 := hid hS7
  have Q1 := hid q1
  have Q2 := hid q2
  have HT7 := hid htx
  have HZ7 := hid hz7
  have HSP := hid hsp
  clear hout hS7 hc7 q1 q2 q3 htx hz7 hsp L6' hb6' R6 S6 L6
  have HBy := hid (Bytes_any' sb bb vo va5 l1 ([] ++ l2) t7 a7 (0 + 1 + 1) w1.heap.size w7 S7.out Q1.out Q2.out (by rw [HT7.out]; omega))
  rw [HT7.out] at HBy
  have HSm := hid (fun u v W => same_yes u v l1 W)
  have HPc := hid (fun W (hW : Below w7.heap.size w7 W) => Pieces_any (some ⟨sb, 0, none⟩) a7 (0 + 1 + 1) t7 W (S7.out.keep hW).sht (S7.out.tree.keep hW) (by rw [HZ7.out]; omega))
  rw [HZ7.out] at HPc
  have HSS := hid (fun b1 b2 a1 c1 a2 c2 W (h1 : W.ownsRow b1 30 3 (.slice a1 t.size c1) t.size (spcs t7.list)) (h2 : W.ownsRow b2 30 3 (.slice a2 t.size c2) t.size (spcs t.list)) => sameSpans_any a1 c1 a2 c2 b1 b2 t.size t7.list t.list W (by omega) (hid (by rw [t7.size_list]; exact HZ7.out)) HSP (hid h1) (hid h2))
  have HEd := hid (fun W (hW : Below w7.heap.size w7 W) => edits_any (some ⟨sb, 0, none⟩) a7 (0 + 1 + 1) W (S7.out.keep hW).sht)
  go_wp2_with (first
    | (go_at_call 33; refine HBy.out.mono ?_; rintro e w8 ⟨v8, rfl, hr8, hb8⟩; have V8 := hid hr8; clear hr8)
    | (go_at_call 32; refine (HSm.out _ _ _ V8.out (h1.out.keep (bT L7 hb8))).mono ?_; rintro e w9 ⟨rfl, hb9⟩; have b9 := bT hb8 hb9)
    | (go_at_call 31; refine (HPc.out _ b9).mono ?_; rintro e w10 ⟨ao10, c10, rfl, hr10, hb10⟩; have R10 := hid hr10; have b10 := bT b9 hb10; clear hr10)
    | (go_at_call 43; refine (HSS.out _ _ _ _ _ _ _ R10.out (Ab.own_keep R7.out b10)).mono ?_; rintro e w11 ⟨rfl, hb11⟩; have b11 := bT b10 hb11)
    | (go_at_call 38; refine (HEd.out _ b11).mono ?_; rintro e w12 ⟨rfl, hb12⟩; have b12 := bT b11 hb12))
  go_ret
  exact ⟨rfl, bT L7 b12⟩

set_option maxHeartbeats 4000000 in
/-- Nothing is put in. -/
theorem sheetBack_none (a1 : Option Addr) (c1 : Nat) (l1 : List UInt8) (x : Int) (a2 : Option Addr) (c2 : Nat) (w : World) (h1 : Hid (Ab.Rd w (.slice a1 l1.length c1) l1)) (hx1 : -9223372036854775808 ≤ x) (hx2 : x ≤ 9223372036854775807) (hz : l1.length ≤ 1048573) :
    Calls Try.prog 6 #[.slice a1 l1.length c1, .int .i64 x, .slice a2 0 c2] w fun e w' => e = .returned (.bool true) ∧ Below w.heap.size w w' := by
  have HA := hid awake_any
  have HP := hid (fun W => place_any x (l1.length + 1) W hx1 hx2 (by omega) (by omega))
  simp only [Int.natCast_add, Int.cast_ofNat_Int] at HP
  go_enter Try.func6, Try.ntmps6
  go_wp2_with (first
    | (go_at_call 25; refine (HA.out _).mono ?_; rintro e w1 ⟨rfl, b1⟩)
    | (go_at_call 26; refine (New_any a1 c1 l1 _ (by omega) (hid (h1.out.keep b1))).mono ?_; rintro e w2 ⟨sb, bb, vo, a, t, rfl, hS, hN, b2⟩; have HS := hid hS; have HN := hid hN; have L2 := bT b1 b2; clear hS hN)
    | (go_at_call 40; refine (HP.out _).mono ?_; rintro e w3 ⟨⟨k, hk, rfl⟩, b3⟩; have L3 := bT L2 b3; have S3 := hid (HS.out.keep b3)))
  obtain ⟨o1, o2, o3, o4⟩ := HN.out.ok (by omega)
  have hsz : t.size ≤ 1 := by rw [← t.size_list]; exact o4
  have hbt : t.byt = (l1.length : Int) := by rw [byt_list, ← txt_len o2, o3]
  have O1 := hid o1
  have O2 := hid o2
  have O3 := hid o3
  have HBT := hid hbt
  clear o1 o2 o3 o4 hbt b1 b2 b3 L2 HS
  have HPc := hid (fun W (hW : Below w3.heap.size w3 W) => Pieces_any (some ⟨sb, 0, none⟩) a 0 t W (S3.out.keep hW).sht (S3.out.tree.keep hW) (by omega))
  refine (HPc.out w3 (Below.refl _ _)).mono ?_
  rintro e w4 ⟨ao4, cp4, rfl, hr4, hb4⟩
  have R4 := hid hr4
  clear hr4
  have HIn := hid (fun W (hW : Below w3.heap.size w3 W) => Insert_empty sb t a 0 a2 c2 (k : Int) W (S3.out.keep hW).sht (S3.out.tree.keep hW) (by omega) (by rw [HBT.out]; omega))
  have HDe := hid (fun W (hW : Below w3.heap.size w3 W) => Delete_empty sb t a 0 (k : Int) W (S3.out.keep hW).sht (S3.out.tree.keep hW) (by omega) (by rw [HBT.out]; omega))
  have HLe := hid (fun W (hW : Below w3.heap.size w3 W) => sLen_any (some ⟨sb, 0, none⟩) a 0 t W (S3.out.keep hW).sht (S3.out.tree.keep hW))
  rw [HBT.out] at HLe
  have HBy := hid (fun W (hW : Below w3.heap.size w3 W) => Bytes_any' sb bb vo (.slice none 0 0) l1 [] t a 0 w1.heap.size W (S3.out.keep hW) O1.out O2.out (by rw [O3.out]; omega))
  rw [O3.out] at HBy
  have HSm := hid (fun u v W => same_yes u v l1 W)
  have HSS := hid (fun b1 b2 a1 c1 a2 c2 W (h1 : W.ownsRow b1 30 3 (.slice a1 t.size c1) t.size (spcs t.list)) (h2 : W.ownsRow b2 30 3 (.slice a2 t.size c2) t.size (spcs t.list)) => sameSpans_any a1 c1 a2 c2 b1 b2 t.size t.list t.list W (by omega) (hid t.size_list) (hid rfl) (hid h1) (hid h2))
  have HEd := hid (fun W (hW : Below w3.heap.size w3 W) => edits_any (some ⟨sb, 0, none⟩) a 0 W (S3.out.keep hW).sht)
  go_wp2_with (first
    | (go_at_call 41; refine (HIn.out _ hb4).mono ?_; rintro e w5 ⟨rfl, hb5⟩; have b5 := bT hb4 hb5)
    | (go_at_call 34; refine (HLe.out _ b5).mono ?_; rintro e w6 ⟨rfl, hb6⟩; have b6 := bT b5 hb6)
    | (go_at_call 42; refine (HDe.out _ b6).mono ?_; rintro e w7 ⟨rfl, hb7⟩; have b7 := bT b6 hb7)
    | (go_at_call 33; refine (HBy.out _ b7).mono ?_; rintro e w8 ⟨v8, rfl, hr8, hb8⟩; have V8 := hid hr8; have b8 := bT b7 hb8; clear hr8)
    | (go_at_call 32; refine (HSm.out _ _ _ V8.out (h1.out.keep (bT L3 b8))).mono ?_; rintro e w9 ⟨rfl, hb9⟩; have b9 := bT b8 hb9)
    | (go_at_call 31; refine (HPc.out _ b9).mono ?_; rintro e w10 ⟨ao10, c10, rfl, hr10, hb10⟩; have R10 := hid hr10; have b10 := bT b9 hb10; clear hr10)
    | (go_at_call 43; refine (HSS.out _ _ _ _ _ _ _ R10.out (Ab.own_keep R4.out (((((((hb5.trans (hb6.mono hb5.size)).trans (hb7.mono (bT hb5 hb6).size)).trans (hb8.mono (bT (bT hb5 hb6) hb7).size)).trans (hb9.mono (bT (bT (bT hb5 hb6) hb7) hb8).size)).trans (hb10.mono (bT (bT (bT (bT hb5 hb6) hb7) hb8) hb9).size)))))).mono ?_; rintro e w11 ⟨rfl, hb11⟩; have b11 := bT b10 hb11)
    | (go_at_call 38; refine (HEd.out _ b11).mono ?_; rintro e w12 ⟨rfl, hb12⟩; have b12 := bT b11 hb12))
  go_ret
  exact ⟨rfl, bT L3 b12⟩

end Go.Proofs.Ytpifjghhlcjedaa

namespace Go.Proofs.Ytpifjghhlcjedaa
open Go.RowKit

/-- A byte of the text, told by its piece. -/
theorem hit_byte {O A : List UInt8} {L : List Pc} {m : Int} {j : Nat} {x : Int} {p : Pc} (hg : Gds O A L) (hp : L[j]? = some p) (hx0 : 0 ≤ x) (hx1 : x < p.l) (hm : m = sB (L.take j) + x) : (txt O A L).getD m.toNat 0 = (pcs O A p).getD x.toNat 0 := by
  have hlt := (List.getElem?_eq_some_iff.1 hp).1
  have e : L = L.take j ++ p :: L.drop (j + 1) := by
    conv => lhs; rw [← List.take_append_drop j L]
    rw [List.drop_eq_getElem_cons hlt]
    obtain ⟨_, e⟩ := List.getElem?_eq_some_iff.1 hp
    rw [e]
  have et : txt O A L = txt O A (L.take j) ++ (pcs O A p ++ txt O A (L.drop (j + 1))) := by
    conv => lhs; rw [e]
    rw [txt_append, txt_cons]
  have l1 := txt_len (hg.take j)
  have l2 := (hg.at hp).len
  have em : m.toNat = (txt O A (L.take j)).length + x.toNat := by omega
  rw [et, em, List.getD_eq_getElem?_getD, List.getD_eq_getElem?_getD, List.getElem?_append_right (by omega), Nat.add_sub_cancel_left, List.getElem?_append_left (by omega)]

set_option maxHeartbeats 2000000 in
theorem Byte_some (sb bb : Nat) (vo va : Value) (O A : List UInt8) (t : Tr) (a : Option Addr) (e : Int) (base : Nat) (m : Int) (w : World) (hSh : Hid (Sh w base sb bb vo va O A t a e)) (hg : Hid (Gds O A t.list)) (hz : Hid ((txt O A t.list).length ≤ 1048576)) (h0 : 0 ≤ m) (h1 : m < t.byt) :
    Calls Try.prog 49 #[.pointer (some ⟨sb, 0, none⟩), .int .i64 m] w fun e' w' => e' = .returned (.tuple #[.int .u8 (((txt O A t.list).getD m.toNat 0).toNat : Int), .int .i64 0]) ∧ Below w.heap.size w w' := by
  have hfine : t.fine := (Tr.fine_list t).2 (hg.out.fine hz.out)
  have HT := hid (fun W (hW : Below w.heap.size w W) => shTree_any (some ⟨sb, 0, none⟩) a e W (hSh.out.keep hW).sht)
  have HF := hid (fun W (hW : Below w.heap.size w W) => Find52_yes t a m W h0 h1 hfine (hSh.out.tree.keep hW))
  have HG := hid (fun j W (hj : j < t.size) (hW : Below w.heap.size w W) => Get_yes t a j W hj hfine.2 (hSh.out.tree.keep hW))
  have HS := hid (fun W (hW : Below w.heap.size w W) => (hSh.out.keep hW).here)
  go_enter Try.func49, Try.ntmps49
  go_wp2_with (first
    | (go_at_call 72; refine (HT.out _ (Below.refl _ _)).mono ?_; rintro e9 w9 ⟨rfl, b9⟩)
    | (go_at_call 51; refine (HF.out _ b9).mono ?_; rintro e8 w8 ⟨j, x0, rfl, hit, hb8⟩; have b8 := b9.trans (hb8.mono b9.size); obtain ⟨x, rfl⟩ : ∃ x : Nat, x0 = x := (by obtain ⟨pp, _, q, _⟩ := hit; exact ⟨x0.toNat, by omega⟩); have HIT := hid hit; have hj : j < t.size := (by rw [← t.size_list]; exact hit_lt52 hit); clear hit hb8; obtain ⟨c0, c1, c2, _, _, _⟩ := sh_cells (HS.out _ b8))
    | (go_at_call 24; refine (HG.out j _ hj b8).mono ?_; rintro e7 w7 ⟨ps, po0, pl0, pn, hget, rfl, hb7⟩; have b7 := b8.trans (hb7.mono b8.size); have HGT := hid hget; obtain ⟨po, pl, e1, e2, k1, k2, k3⟩ := Ab.hd_parts (hg.out.at hget).hold; simp only at e1 e2 k1 k2; subst e1 e2; clear hget hb7 c0 c1 c2))
  have b6 := bAlloc b7 (.cells #[.int .i64 ps, .int .i64 po, .int .i64 pl, .int .i64 pn] 32)
  have P6 := World.alloc_heap_new w7 (.cells #[.int .i64 ps, .int .i64 po, .int .i64 pl, .int .i64 pn] 32)
  generalize w7.alloc (.cells #[.int .i64 ps, .int .i64 po, .int .i64 pl, .int .i64 pn] 32) = w6 at *
  obtain ⟨c0, c1, c2, _, _, _⟩ := sh_cells (HS.out _ b6)
  obtain ⟨d0, d1, d2, d3⟩ := four_cells P6
  have HP6 := hid P6
  clear P6
  have hxl : x < pl := by
    obtain ⟨pp, q1, q2, q3, q4⟩ := HIT.out
    rw [HGT.out] at q1
    cases q1
    simp only at q3
    omega
  have HBy := hid (fun W (hW : Below w.heap.size w W) => Ab.byte_yes (some ⟨bb, 0, none⟩) ps po pl x O A base W k1 k2 hxl (hSh.out.keep hW).shb.buf)
  go_region_held3 (fun w' => w'.cell? ⟨sb, 0, none⟩ = some (.pointer (some ⟨bb, 0, none⟩)) ∧ w'.cell? ⟨w7.heap.size, 0, none⟩ = some (.int .i64 ps) ∧ w'.cell? ⟨w7.heap.size, 1, none⟩ = some (.int .i64 po) ∧ w'.cell? ⟨w7.heap.size, 2, none⟩ = some (.int .i64 pl)) (first | assumption | simp [*, go_sem])
    (first | (go_at_call 87; refine (HBy.out _ b6.drew).mono ?_; rintro e5 w5 ⟨rfl, hb5⟩; have b5 := b6.trans ((bD hb5).mono b6.size); obtain ⟨c0, c1, c2, _, _, _⟩ := sh_cells (HS.out _ b5); obtain ⟨d0, d1, d2, d3⟩ := four_cells (((bD hb5).block _ (sh_lt HP6.out)).trans HP6.out)))
  go_wp2
  obtain ⟨pp, q1, q2, q3, q4⟩ := HIT.out
  rw [HGT.out] at q1
  cases q1
  have hb := hit_byte hg.out HGT.out q2 q3 q4
  refine bodyPost_ret (v := .tuple #[.int .u8 (((txt O A t.list).getD m.toNat 0).toNat : Int), .int .i64 0]) ?_ rfl ⟨rfl, b5⟩
  rw [hb]
  simp [results, Try.results49, go_sem, Ab.at8, pcs]

set_option maxHeartbeats 1000000 in
theorem Byte_no (p a : Option Addr) (e : Int) (t : Tr) (m : Int) (w : World) (hS : Hid (ShT w p a e)) (hT : Hid (At w t a)) (hm : m < 0 ∨ t.byt ≤ m) :
    Calls Try.prog 49 #[.pointer p, .int .i64 m] w fun e' w' => e' = .returned (.tuple #[.int .u8 0, .int .i64 30]) ∧ Below w.heap.size w w' := by
  have HF := hid (fun W (hW : Below w.heap.size w W) => Find52_no t a m W hm (hT.out.keep hW))
  have HT := hid (shTree_any p a e w hS)
  clear hm
  go_enter Try.func49, Try.ntmps49
  go_wp2_with (first
    | (go_at_call 72; refine HT.out.mono ?_; rintro e9 w9 ⟨rfl, b9⟩)
    | (go_at_call 51; refine (HF.out _ b9).mono ?_; rintro e8 w8 ⟨rfl, hb8⟩))
  exact bodyPost_ret (v := .tuple #[.int .u8 0, .int .i64 30]) (by simp [results, Try.results49, go_sem]) rfl ⟨rfl, b9.trans (hb8.mono b9.size)⟩

set_option maxHeartbeats 1000000 in
theorem Slice_no (p a : Option Addr) (e : Int) (t : Tr) (x y : Int) (w : World) (hS : Hid (ShT w p a e)) (hT : Hid (At w t a)) (hd : decide (0 ≤ x ∧ x ≤ y ∧ y ≤ t.byt) = false) :
    Calls Try.prog 44 #[.pointer p, .int .i64 x, .int .i64 y] w fun e' w' => e' = .returned (.tuple #[.slice none 0 0, .int .i64 30]) ∧ Below w.heap.size w w' := by
  have HR := hid (hasRange_any p a e t x y w hS hT)
  rw [hd] at HR
  clear hd
  go_enter Try.func44, Try.ntmps44
  go_wp2_with (go_at_call 77; refine HR.out.mono ?_; rintro e9 w9 ⟨rfl, b9⟩)
  exact bodyPost_ret (v := .tuple #[.slice none 0 0, .int .i64 30]) (by simp [results, Try.results44, go_sem]) rfl ⟨rfl, b9⟩

set_option maxHeartbeats 1000000 in
theorem Slice_some (sb bb : Nat) (vo va : Value) (O A : List UInt8) (t : Tr) (a : Option Addr) (e : Int) (base : Nat) (x y : Nat) (w : World) (hSh : Hid (Sh w base sb bb vo va O A t a e)) (hw : Hid t.whole) (hg : Hid (Gds O A t.list)) (hz : Hid ((txt O A t.list).length ≤ 1048576)) (hxy : x ≤ y) (hy : y ≤ (txt O A t.list).length) :
    Calls Try.prog 44 #[.pointer (some ⟨sb, 0, none⟩), .int .i64 (x : Int), .int .i64 (y : Int)] w fun e' w' => ∃ ao c, e' = .returned (.tuple #[.slice ao (y - x) c, .int .i64 0]) ∧ w'.ownsRow w.heap.size 5 1 (.slice ao (y - x) c) (y - x) (Ab.bv (((txt O A t.list).drop x).take (y - x))) ∧ Below w.heap.size w w' := by
  have hb := txt_len hg.out
  rw [← byt_list] at hb
  have hd : decide (0 ≤ (x : Int) ∧ (x : Int) ≤ (y : Int) ∧ (y : Int) ≤ t.byt) = true := by simp; omega
  have HR := hid (hasRange_any (some ⟨sb, 0, none⟩) a e t x y w hSh.out.sht hSh.out.tree)
  rw [hd] at HR
  have HRd : Hid (∀ W, Below w.heap.size w W → Calls Try.prog 73 #[.pointer (some ⟨sb, 0, none⟩), .int .i64 (x : Int), .int .i64 (y : Int)] W fun e' w' => ∃ ao c, e' = .returned (.slice ao (y - x) c) ∧ w'.ownsRow W.heap.size 5 1 (.slice ao (y - x) c) (y - x) (Ab.bv (((txt O A t.list).drop x).take (y - x))) ∧ Below W.heap.size W w') := fun W hW => by
    rcases Nat.lt_or_ge x y with h | h
    · exact read_some sb bb vo va O A t a e base x y W (hid (hSh.out.keep hW)) hw hg hz.out h hy
    · obtain rfl : x = y := by omega
      exact (read_none _ _ W).mono fun e' w' ⟨h1, h2⟩ => ⟨none, 0, by rw [h1, Nat.sub_self], by rw [Nat.sub_self, List.take_zero]; exact World.ownsRow_nil _ _ _ _, h2⟩
  clear hd hb
  go_enter Try.func44, Try.ntmps44
  go_wp2_with (first | (go_at_call 77; refine HR.out.mono ?_; rintro e9 w9 ⟨rfl, b9⟩) | (go_at_call 73; refine (HRd.out _ b9).mono ?_; rintro e8 w8 ⟨ao, c, rfl, hr8, hb8⟩; have R8 := hid hr8; clear hr8))
  exact bodyPost_ret (v := .tuple #[.slice ao (y - x) c, .int .i64 0]) (by simp [results, Try.results44, go_sem]) rfl ⟨ao, c, rfl, Ab.own_lower R8.out b9.size, b9.trans (hb8.mono b9.size)⟩

/-- The line ends ahead of a place, told by its piece. -/
theorem hit_lines {O A : List UInt8} {L : List Pc} {m : Int} {j : Nat} {x : Int} {p : Pc} (hg : Gds O A L) (hp : L[j]? = some p) (hx0 : 0 ≤ x) (hx1 : x < p.l) (hm : m = sB (L.take j) + x) : (Ab.nl ((txt O A L).take m.toNat) : Int) = sL (L.take j) + (Ab.nl ((pcs O A p).take x.toNat) : Nat) := by
  have hlt := (List.getElem?_eq_some_iff.1 hp).1
  have e : L = L.take j ++ p :: L.drop (j + 1) := by
    conv => lhs; rw [← List.take_append_drop j L]
    rw [List.drop_eq_getElem_cons hlt]
    obtain ⟨_, e⟩ := List.getElem?_eq_some_iff.1 hp
    rw [e]
  have et : txt O A L = txt O A (L.take j) ++ (pcs O A p ++ txt O A (L.drop (j + 1))) := by
    conv => lhs; rw [e]
    rw [txt_append, txt_cons]
  have l1 := txt_len (hg.take j)
  have l2 := (hg.at hp).len
  have n1 := txt_nl (hg.take j)
  have em : m.toNat = (txt O A (L.take j)).length + x.toNat := by omega
  rw [et, em, List.take_append, List.take_of_length_le (by omega), Nat.add_sub_cancel_left, nl_append, List.take_append_of_le_length (by omega)]
  push_cast
  omega

end Go.Proofs.Ytpifjghhlcjedaa

namespace Go.Proofs.Ytpifjghhlcjedaa
open Go.RowKit

theorem rcells_atS {L : List Rw} {m : Nat} {r : Rw} (h : L[m]? = some r) (i : Nat) (hi : i < 10) : (rcells L)[m * 10 + i]? = r.cs[i]? := by
  have hlt := (List.getElem?_eq_some_iff.1 h).1
  have e : L = L.take m ++ r :: L.drop (m + 1) := by
    conv => lhs; rw [← List.take_append_drop m L]
    rw [List.drop_eq_getElem_cons hlt]
    obtain ⟨_, e⟩ := List.getElem?_eq_some_iff.1 h
    rw [e]
  have l1 : (rcells (L.take m)).length = m * 10 := by rw [rcells_length, List.length_take]; omega
  conv => lhs; rw [e]
  unfold rcells at l1 ⊢
  rw [List.flatMap_append, List.getElem?_append_right (by omega), l1, List.flatMap_cons, List.getElem?_append_left (by simp [Rw.cs]; omega)]
  congr 1
  omega

/-- the ten cells of row number m -/
structure Ten (w : World) (g m : Nat) (r : Rw) : Prop where
  c0 : w.cell? ⟨g, m * 10, none⟩ = some (.int .i64 r.p.s)
  c1 : w.cell? ⟨g, m * 10 + 1, none⟩ = some (.int .i64 r.p.o)
  c2 : w.cell? ⟨g, m * 10 + 2, none⟩ = some (.int .i64 r.p.l)
  c3 : w.cell? ⟨g, m * 10 + 3, none⟩ = some (.int .i64 r.p.n)
  c4 : w.cell? ⟨g, m * 10 + 4, none⟩ = some (.bool r.red)
  c5 : w.cell? ⟨g, m * 10 + 5, none⟩ = some (.bool r.left)
  c6 : w.cell? ⟨g, m * 10 + 6, none⟩ = some (.bool r.right)
  c7 : w.cell? ⟨g, m * 10 + 7, none⟩ = some (.int .i64 r.cnt)
  c8 : w.cell? ⟨g, m * 10 + 8, none⟩ = some (.int .i64 r.byt)
  c9 : w.cell? ⟨g, m * 10 + 9, none⟩ = some (.int .i64 r.lin)

theorem own_ten {w : World} {B n c : Nat} {ao : Option Addr} {L : List Rw} {m : Nat} {r : Rw} (h : w.ownsRow B 53 10 (.slice ao n c) n (rcells L)) (hp : L[m]? = some r) (hn : L.length = n) :
    ∃ g, ao = some ⟨g, 0, none⟩ ∧ Ten w g m r := by
  have hlt := (List.getElem?_eq_some_iff.1 hp).1
  rcases h.2 with ⟨_, h0⟩ | ⟨g, cap, cur, e, _⟩
  · omega
  · cases e
    have hc := fun i (hi : i < 10) => (h.cellAt (m * 10 + i) (by omega)).trans (rcells_atS hp i hi)
    exact ⟨g, rfl, by simpa [Rw.cs] using hc 0 (by omega), by simpa [Rw.cs] using hc 1 (by omega), by simpa [Rw.cs] using hc 2 (by omega), by simpa [Rw.cs] using hc 3 (by omega), by simpa [Rw.cs] using hc 4 (by omega), by simpa [Rw.cs] using hc 5 (by omega), by simpa [Rw.cs] using hc 6 (by omega), by simpa [Rw.cs] using hc 7 (by omega), by simpa [Rw.cs] using hc 8 (by omega), by simpa [Rw.cs] using hc 9 (by omega)⟩

set_option maxRecDepth 100000 in
set_option maxHeartbeats 4000000 in
theorem sameRows_any (a1 : Option Addr) (c1 : Nat) (a2 : Option Addr) (c2 B1 B2 n : Nat) (L : List Rw) (w : World) (hz : n ≤ 1048576) (hL : Hid (L.length = n)) (h1 : Hid (w.ownsRow B1 53 10 (.slice a1 n c1) n (rcells L))) (h2 : Hid (w.ownsRow B2 53 10 (.slice a2 n c2) n (rcells L))) :
    Calls Try.prog 22 #[.slice a1 n c1, .slice a2 n c2] w fun e w' => e = .returned (.bool true) ∧ Below w.heap.size w w' := by
  go_enter Try.func22, Try.ntmps22
  go_wp2
  go_loopw [5] (fun i wq => ∃ m : Nat, m ≤ n ∧ i = .int .i64 m ∧ Below w.heap.size w wq) (fun i _ => n - (intOf i).toNat)
  case atStart => exact ⟨0, Nat.zero_le _, rfl, Below.refl _ _⟩
  case round =>
    obtain ⟨m, hm, rfl, hb⟩ := hrel
    have HB : Hid (Below w.heap.size w wr) := hb
    clear hb
    by_cases hmt : m < n
    · have hl := hL.out
      obtain ⟨p, hp⟩ : ∃ p, L[m]? = some p := ⟨_, List.getElem?_eq_getElem (by omega)⟩
      obtain ⟨g1, e1, r0, r1, r2, r3, r4, r5, r6, r7, r8, r9⟩ := own_ten h1.out hp hl
      obtain ⟨g2, e2, q0, q1, q2, q3, q4, q5, q6, q7, q8, q9⟩ := own_ten h2.out hp hl
      subst e1 e2
      have kk := bcell HB.out
      have hg1 : g1 < w.heap.size := (h1.out.lt g1 rfl).2
      have hg2 : g2 < w.heap.size := (h2.out.lt g2 rfl).2
      have k1 := fun o => kk.1 g1 o hg1
      have k2 := fun o => kk.1 g2 o hg2
      rw [← k1] at r0 r1 r2 r3 r4 r5 r6 r7 r8 r9
      rw [← k2] at q0 q1 q2 q3 q4 q5 q6 q7 q8 q9
      obtain ⟨⟨s, o, l, nn⟩, b1, b2, b3, x1, x2, x3⟩ := p
      simp only at r0 r1 r2 r3 r4 r5 r6 r7 r8 r9 q0 q1 q2 q3 q4 q5 q6 q7 q8 q9
      have hm0 : (0 : Int) ≤ (m : Int) := by omega
      have hml : (m : Int) < (n : Int) := by omega
      clear hp hl kk k1 k2
      go_wp2
      go_region
      go_wp2
      go_roundw
      case rel => exact ⟨m + 1, by omega, by go_num, HB.out.drew⟩
      case measure => simp [intOf]; omega
    · obtain rfl : m = n := by omega
      go_wp2
      go_ret
      exact ⟨rfl, HB.out⟩
end Go.Proofs.Ytpifjghhlcjedaa

namespace Go.Proofs.Ytpifjghhlcjedaa
open Go.RowKit

theorem apT_len : ∀ (es : List Ed) (T T' : List UInt8), apT T es = some T' → T'.length ≤ T.length + nsum es
  | [], T, T', h => by
    have : T = T' := by simpa [apT] using h
    subst this; exact Nat.le_add_right _ _
  | d :: ds, T, T', h => by
    unfold apT at h
    cases hf : edB T d with
    | false => rw [hf] at h; cases h
    | true =>
      rw [hf, if_pos rfl] at h
      have h1 := apT_len ds _ _ h
      have h2 := edT_len hf
      show T'.length ≤ T.length + (d.new.length + nsum ds)
      omega
theorem stT_len {T T' : List UInt8} {q : Sq} (h : stT T q = some T') : T'.length ≤ T.length + qby q := by
  unfold stT at h
  unfold qby
  split at h
  · split at h
    · simp only [Option.some.injEq] at h
      subst h
      simp only [List.length_append, List.length_take, List.length_drop]
      omega
    · cases h
  · split at h
    · split at h
      · simp only [Option.some.injEq] at h
        subst h
        simp only [List.length_append, List.length_take, List.length_drop]
        omega
      · cases h
    · split at h
      · have := apT_len _ _ _ h; omega
      · have : T = T' := by simpa using h
        subst this; omega
def qsum : List Sq → Nat
  | [] => 0
  | q :: qs => qby q + qsum qs
def qeds : List Sq → Nat
  | [] => 0
  | q :: qs => qed q + qeds qs
theorem qsum_drop {qs : List Sq} {i : Nat} {q : Sq} (h : qs[i]? = some q) : qsum (qs.drop i) = qby q + qsum (qs.drop (i + 1)) := by
  obtain ⟨hi, rfl⟩ := List.getElem?_eq_some_iff.1 h
  rw [List.drop_eq_getElem_cons hi]; rfl
theorem qeds_drop {qs : List Sq} {i : Nat} {q : Sq} (h : qs[i]? = some q) : qeds (qs.drop i) = qed q + qeds (qs.drop (i + 1)) := by
  obtain ⟨hi, rfl⟩ := List.getElem?_eq_some_iff.1 h
  rw [List.drop_eq_getElem_cons hi]; rfl
/-- a script in memory -/
structure Scs (W : World) (ao : Option Addr) (qs : List Sq) : Prop where
  cells : ∀ (i : Nat) (q : Sq), qs[i]? = some q → ∃ g o ap cp ae ce, ao = some ⟨g, o, none⟩ ∧ W.cell? ⟨g, o + i * 5, none⟩ = some (.int .i64 q.kind) ∧ W.cell? ⟨g, o + i * 5 + 1, none⟩ = some (.int .i64 q.a) ∧ W.cell? ⟨g, o + i * 5 + 2, none⟩ = some (.int .i64 q.b) ∧ W.cell? ⟨g, o + i * 5 + 3, none⟩ = some (.slice ap q.p.length cp) ∧ W.cell? ⟨g, o + i * 5 + 4, none⟩ = some (.slice ae q.es.length ce) ∧ Sqr W q ap ae cp ce
  small : ∀ q ∈ qs, q.es.length ≤ 1048576 ∧ ∀ d ∈ q.es, d.old.length ≤ 1048576
theorem Sqr.keep {W W' : World} {q : Sq} {ap ae : Option Addr} {cp ce : Nat} (h : Sqr W q ap ae cp ce) (hb : Below W.heap.size W W') : Sqr W' q ap ae cp ce := ⟨h.rp.keep hb, h.re.keep hb⟩
theorem Scs.keep {W W' : World} {ao : Option Addr} {qs : List Sq} (h : Scs W ao qs) (hb : Below W.heap.size W W') : Scs W' ao qs :=
  ⟨fun i q hq => by
    obtain ⟨g, o, ap, cp, ae, ce, h0, h1, h2, h3, h4, h5, h6⟩ := h.cells i q hq
    exact ⟨g, o, ap, cp, ae, ce, h0, by rw [hb.cell (lt_cell h1)]; exact h1, by rw [hb.cell (lt_cell h2)]; exact h2, by rw [hb.cell (lt_cell h3)]; exact h3, by rw [hb.cell (lt_cell h4)]; exact h4, by rw [hb.cell (lt_cell h5)]; exact h5, h6.keep hb⟩, h.small⟩

set_option maxHeartbeats 1000000 in
theorem Bytes_own (sb bb : Nat) (vo va : Value) (O A : List UInt8) (t : Tr) (a : Option Addr) (e : Int) (base n : Nat) (w : World) (hSh : Hid (Sh w base sb bb vo va O A t a e)) (hw : Hid t.whole) (hg : Hid (Gds O A t.list)) (hz : Hid ((txt O A t.list).length ≤ 1048576)) (hn : Hid ((txt O A t.list).length = n)) :
    Calls Try.prog 33 #[.pointer (some ⟨sb, 0, none⟩)] w fun e' w' => ∃ ao c, e' = .returned (.slice ao n c) ∧ w'.ownsRow w.heap.size 5 1 (.slice ao n c) n (Ab.bv (txt O A t.list)) ∧ Below w.heap.size w w' := by
  have hb : t.byt = (n : Int) := by rw [byt_list, ← txt_len hg.out, hn.out]
  have HL := hid (fun W (hW : Below w.heap.size w W) => sLen_any (some ⟨sb, 0, none⟩) a e t W (hSh.out.keep hW).sht (hSh.out.tree.keep hW))
  rw [hb] at HL
  have HR := hid (fun W (hW : Below w.heap.size w W) => read_any sb bb vo va O A t a e base 0 n W (hSh.out.keep hW) hw hg hz.out (Nat.zero_le _) (by rw [hn.out]; exact Nat.le_refl _))
  simp only [List.drop_zero, Nat.sub_zero] at HR
  rw [List.take_of_length_le (by rw [hn.out]; exact Nat.le_refl _)] at HR
  clear hb
  go_enter Try.func33, Try.ntmps33
  go_wp2_with (first | (go_at_call 34; refine (HL.out _ (Below.refl _ _)).mono ?_; rintro e9 w9 ⟨rfl, hb9⟩) | (go_at_call 73; refine (HR.out _ hb9).mono ?_; rintro e8 w8 ⟨ao, c, rfl, hr8, hb8⟩; have R8 := hid hr8; clear hr8))
  go_ret
  exact ⟨_, _, rfl, Ab.own_lower R8.out hb9.size, bT hb9 hb8⟩
end Go.Proofs.Ytpifjghhlcjedaa

namespace Go.Proofs.Ytpifjghhlcjedaa
open Go.RowKit

theorem lt_bitLenAux : ∀ (f x : Nat), x < 2 ^ f → x < 2 ^ Lib.bitLenAux f x
  | 0, x, h => by simpa [Lib.bitLenAux] using h
  | f + 1, x, h => by
    simp only [Lib.bitLenAux]
    split
    · subst x; simp
    · have := lt_bitLenAux f (x / 2) (by rw [Nat.pow_succ] at h; omega)
      rw [Nat.pow_add, Nat.pow_one]; omega
theorem lt_bitLen (x : Nat) (h : x ≤ 2097152) : x < 2 ^ Lib.bitLen x := lt_bitLenAux 64 x (by omega)

theorem l8_get (y : Int) (h : y.toNat < Lib.len8tab.size) : ((Lib.len8tab[y.toNat]'h).toNat : Int) = Lib.len8 y := by
  unfold Lib.len8
  have e : Lib.len8tab[y.toNat]? = some (Lib.len8tab[y.toNat]'h) := by rw [getElem?_pos]
  rw [e]; rfl
theorem ret_int {a b : Int} (h : a = b) : Ending.returned (.int .i64 a) = .returned (.int .i64 b) := by rw [h]

set_option maxHeartbeats 4000000 in
set_option maxRecDepth 100000 in
theorem len64_a (x : Int) (w : World) (h0 : 0 ≤ x) (h1 : x < 256) :
    Calls Try.prog 116 #[.int .u64 x] w fun e w' => e = .returned (.int .i64 (Lib.bitLen x.toNat)) ∧ w' = w := by
  go_enter Try.func116, Try.ntmps116
  go_wp2
  all_goals first
    | (go_ret; refine ⟨ret_int ?_, rfl⟩)
    | (exfalso; have hs := Lib.len8tab_size; omega)
  have l := Lib.bitLen_le8' x (by omega) (by omega)
  rw [l8_get x _, Lib.len8_of x (by omega) (by omega), w64 (x := (Lib.bitLen x.toNat : Int)) (by omega) (by omega), w64 (by omega) (by omega)]
set_option maxHeartbeats 4000000 in
set_option maxRecDepth 100000 in
theorem len64_b (x : Int) (w : World) (h0 : 256 ≤ x) (h1 : x < 65536) :
    Calls Try.prog 116 #[.int .u64 x] w fun e w' => e = .returned (.int .i64 (Lib.bitLen x.toNat)) ∧ w' = w := by
  go_enter Try.func116, Try.ntmps116
  go_wp2
  all_goals first
    | (go_ret; refine ⟨ret_int ?_, rfl⟩)
    | (exfalso; have hs := Lib.len8tab_size; omega)
  have l := Lib.bitLen_le8' (x / 256) (by omega) (by omega)
  have e : (x / 256).toNat = x.toNat / 256 := by omega
  have q := Lib.bitLen_shift8 x.toNat (by omega) (by omega)
  rw [l8_get (x / 256) _, Lib.len8_of (x / 256) (by omega) (by omega), w64 (x := (Lib.bitLen (x / 256).toNat : Int)) (by omega) (by omega), w64 (by omega) (by omega), q, e]
  omega
set_option maxHeartbeats 4000000 in
set_option maxRecDepth 100000 in
theorem len64_c (x : Int) (w : World) (h0 : 65536 ≤ x) (h1 : x ≤ 2097152) :
    Calls Try.prog 116 #[.int .u64 x] w fun e w' => e = .returned (.int .i64 (Lib.bitLen x.toNat)) ∧ w' = w := by
  go_enter Try.func116, Try.ntmps116
  go_wp2
  all_goals first
    | (go_ret; refine ⟨ret_int ?_, rfl⟩)
    | (exfalso; have hs := Lib.len8tab_size; omega)
  have l := Lib.bitLen_le8' (x / 65536) (by omega) (by omega)
  have e : (x / 65536).toNat = x.toNat / 65536 := by omega
  have q := Lib.bitLen_shift16 x.toNat (by omega) (by omega)
  rw [l8_get (x / 65536) _, Lib.len8_of (x / 65536) (by omega) (by omega), w64 (x := (Lib.bitLen (x / 65536).toNat : Int)) (by omega) (by omega), w64 (by omega) (by omega), q, e]
  omega
theorem len64_any (x : Int) (w : World) (h0 : 0 ≤ x) (h1 : x ≤ 2097152) :
    Calls Try.prog 116 #[.int .u64 x] w fun e w' => e = .returned (.int .i64 (Lib.bitLen x.toNat)) ∧ w' = w := by
  by_cases a : x < 256
  · exact len64_a x w h0 a
  · by_cases b : x < 65536
    · exact len64_b x w (by omega) b
    · exact len64_c x w (by omega) h1
set_option maxHeartbeats 4000000 in
theorem len_any (x : Int) (w : World) (h0 : 0 ≤ x) (h1 : x ≤ 2097152) :
    Calls Try.prog 103 #[.int .u64 x] w fun e w' => e = .returned (.int .i64 (Lib.bitLen x.toNat)) ∧ w' = w := by
  go_enter Try.func103, Try.ntmps103
  go_wp2_with (go_at_call 116; refine (len64_any x _ h0 h1).mono ?_; rintro e w' ⟨rfl, rfl⟩)
  go_ret
  exact ⟨rfl, rfl⟩
theorem bitLen_small (n : Nat) (h : n ≤ 1048576) : Lib.bitLen n ≤ 21 := Lib.bitLen_le n 21 (by omega) (by omega)
set_option maxHeartbeats 4000000 in
theorem highest_any (n : Nat) (w : World) (h1 : n ≤ 1048576) :
    Calls Try.prog 75 #[.int .i64 (n : Nat)] w fun e w' => e = .returned (.int .i64 ((2 * Lib.bitLen n : Nat) : Int)) ∧ w' = w := by
  have hb := bitLen_small n h1
  have hw : wrap64 (2 * (Lib.bitLen n : Int)) = ((2 * Lib.bitLen n : Nat) : Int) := by rw [w64 (by omega) (by omega)]; omega
  go_enter Try.func75, Try.ntmps75
  go_wp2_with (go_at_call 103; refine (len_any (n : Int) _ (by omega) (by omega)).mono ?_; rintro e w' ⟨rfl, rfl⟩; rw [show ((n : Int)).toNat = n from rfl])
  go_ret
  exact ⟨rfl, rfl⟩
end Go.Proofs.Ytpifjghhlcjedaa

namespace Go.Proofs.Ytpifjghhlcjedaa
open Go.RowKit

/-- the same row? -/
def eqRw (a b : Rw) : Bool := decide (a.p.s = b.p.s) && decide (a.p.o = b.p.o) && decide (a.p.l = b.p.l) && decide (a.p.n = b.p.n) && (a.red == b.red) && (a.left == b.left) && (a.right == b.right) && decide (a.cnt = b.cnt) && decide (a.byt = b.byt) && decide (a.lin = b.lin)
theorem eqRw_iff {a b : Rw} : eqRw a b = true ↔ a = b := by
  obtain ⟨⟨a0, a1, a2, a3⟩, a4, a5, a6, a7, a8, a9⟩ := a
  obtain ⟨⟨b0, b1, b2, b3⟩, b4, b5, b6, b7, b8, b9⟩ := b
  simp [eqRw, and_assoc]

/-- what a node alone is asked -/
def balB (c : Bool) (l r : Tr) : Bool := decide (l.bh = r.bh) && !(c && (l.red || r.red))

/-- what is made of a row and what was read for its kids -/
def closeN (x : Rw) (l r : Tr) (rest : List Rw) : Option (Tr × List Rw) :=
  if eqRw (rowOf x.red l x.p r) x = true ∧ balB x.red l r = true then some ((Tr.mk (some (x.red, l, x.p, r))), rest) else none

def readN : Nat → List Rw → Option (Tr × List Rw)
  | 0, _ => none
  | _ + 1, [] => none
  | h + 1, x :: L => if fitB x.p.l x.p.n = true then
      match (if x.left = true then readN h L else some ((Tr.mk none), L)) with
      | none => none
      | some (l, L1) => match (if x.right = true then readN h L1 else some ((Tr.mk none), L1)) with
        | none => none
        | some (r, L2) => closeN x l r L2
    else none
def readK (h : Nat) (has : Bool) (L : List Rw) : Option (Tr × List Rw) := if has = true then readN h L else some ((Tr.mk none), L)
theorem readN_zero (L : List Rw) : readN 0 L = none := by simp [readN]
theorem readN_nil (h : Nat) : readN h [] = none := by cases h <;> simp [readN]
theorem readN_succ (h : Nat) (x : Rw) (L : List Rw) : readN (h + 1) (x :: L) = if fitB x.p.l x.p.n = true then
      match readK h x.left L with
      | none => none
      | some (l, L1) => match readK h x.right L1 with
        | none => none
        | some (r, L2) => closeN x l r L2
    else none := by unfold readK; conv => lhs; rw [readN]

/-- what was read: the rows are the tree's and the rest; it is red-black, of fit pieces. -/
def Reads (L : List Rw) (t : Tr) (rest : List Rw) : Prop := L = rowsT t ++ rest ∧ t.bal ∧ t.fits

theorem balB_iff {c : Bool} {l r : Tr} : balB c l r = true ↔ l.bh = r.bh ∧ (c = true → l.red = false ∧ r.red = false) := by
  unfold balB
  cases c <;> cases l.red <;> cases r.red <;> simp

theorem readN_ok : ∀ (h : Nat) (L : List Rw) (t : Tr) (rest : List Rw), readN h L = some (t, rest) → Reads L t rest
  | 0, L, t, rest, e => by rw [readN_zero] at e; cases e
  | h + 1, [], t, rest, e => by rw [readN_nil] at e; cases e
  | h + 1, x :: L, t, rest, e => by
    have kid : ∀ (b : Bool) (L : List Rw) (t : Tr) (rest : List Rw), readK h b L = some (t, rest) → Reads L t rest := by
      intro b L t rest e
      unfold readK at e
      split at e
      · exact readN_ok h L t rest e
      · simp at e; obtain ⟨rfl, rfl⟩ := e; exact ⟨by simp [rowsT], trivial, trivial⟩
    rw [readN_succ] at e
    split at e
    · rename_i hf
      cases hl : readK h x.left L with
      | none => rw [hl] at e; simp at e
      | some pl =>
        obtain ⟨l, L1⟩ := pl
        rw [hl] at e; simp only at e
        cases hr : readK h x.right L1 with
        | none => rw [hr] at e; simp at e
        | some pr =>
          obtain ⟨r, L2⟩ := pr
          rw [hr] at e; simp only at e
          unfold closeN at e
          split at e
          · rename_i hc
            simp at e; obtain ⟨rfl, rfl⟩ := e
            obtain ⟨a1, a2, a3⟩ := kid _ _ _ _ hl
            obtain ⟨b1, b2, b3⟩ := kid _ _ _ _ hr
            have hb := balB_iff.1 hc.2
            refine ⟨?_, ⟨a2, b2, hb.1, hb.2⟩, ⟨a3, (fitB_iff x.p.s x.p.o x.p.l x.p.n).1 hf, b3⟩⟩
            simp only [rowsT]
            rw [eqRw_iff.1 hc.1, a1, b1]; simp
          · simp at e
    · simp at e

/-- a tree's own rows are read as that tree, where the height is enough -/
theorem readN_rows : ∀ (t : Tr) (h : Nat) (rest : List Rw), t.has = true → t.ht ≤ h → t.bal → t.fits → readN h (rowsT t ++ rest) = some (t, rest)
  | (Tr.mk none), h, rest, e, _, _, _ => by simp [Tr.has] at e
  | (Tr.mk (some (c, l, p, r))), 0, rest, _, hh, _, _ => by simp [Tr.ht] at hh
  | (Tr.mk (some (c, l, p, r))), h + 1, rest, _, hh, hb, hf => by
    have kid : ∀ (u : Tr) (rest : List Rw), u.ht ≤ h → u.bal → u.fits → (∀ rest, u.has = true → readN h (rowsT u ++ rest) = some (u, rest)) → readK h u.has (rowsT u ++ rest) = some (u, rest) := by
      intro u rest h1 h2 h3 ih
      unfold readK
      cases u using Tr.el with
      | nil => simp [Tr.has, rowsT]
      | node c' l' p' r' => rw [if_pos (show ((Tr.mk (some (c', l', p', r')))).has = true from rfl)]; exact ih rest rfl
    simp only [Tr.ht] at hh
    have kl := kid l (rowsT r ++ rest) (by omega) hb.1 hf.1 (fun rest e => readN_rows l h rest e (by omega) hb.1 hf.1)
    have kr := kid r rest (by omega) hb.2.1 hf.2.2 (fun rest e => readN_rows r h rest e (by omega) hb.2.1 hf.2.2)
    have hfit : fitB p.l p.n = true := (fitB_iff p.s p.o p.l p.n).2 hf.2.1
    simp only [rowsT, List.cons_append, readN_succ]
    have e1 : (rowOf c l p r).p = p := rfl
    have e2 : (rowOf c l p r).left = l.has := rfl
    have e3 : (rowOf c l p r).right = r.has := rfl
    have e4 : (rowOf c l p r).red = c := rfl
    rw [e1, e2, e3, if_pos hfit, List.append_assoc, kl]
    simp only
    rw [kr]
    simp only
    unfold closeN
    rw [if_pos ⟨eqRw_iff.2 (by rw [e4, e1]), by rw [e4]; exact balB_iff.2 ⟨hb.2.2.1, hb.2.2.2⟩⟩, e4, e1]

/-- Check, over plain data -/
def checkB (L : List Rw) : Bool :=
  match L with
  | [] => true
  | L => match readN (2 * Lib.bitLen L.length) L with
    | some (t, []) => !t.red
    | _ => false

theorem bh_low {t : Tr} (h : t.whole) (hz : t.size ≤ 1048576) : t.ht ≤ 2 * Lib.bitLen t.size := by
  have a := Tr.bal_size t h.1
  have b := Tr.bal_ht t h.1
  rw [h.2] at b
  have c := lt_bitLen t.size (by omega)
  have d : t.bh ≤ Lib.bitLen t.size := by
    apply Nat.le_of_not_lt
    intro hlt
    have : 2 ^ (Lib.bitLen t.size + 1) ≤ 2 ^ t.bh := Nat.pow_le_pow_right (by omega) hlt
    rw [Nat.pow_succ] at this
    omega
  simp at b
  omega

theorem checkB_rows {t : Tr} (h : t.whole) (hf : t.fine) : checkB (rowsT t) = true := by
  cases t using Tr.el with
  | nil => rfl
  | node c l p r =>
    have k := readN_rows ((Tr.mk (some (c, l, p, r)))) (2 * Lib.bitLen ((Tr.mk (some (c, l, p, r)))).size) [] rfl (bh_low h hf.2) h.1 hf.1
    rw [List.append_nil] at k
    have z := rowsT_length ((Tr.mk (some (c, l, p, r))))
    unfold checkB
    split
    · rename_i e; rfl
    · rw [z, k]; simp [h.2]

theorem checkB_iff {L : List Rw} (hz : L.length ≤ 1048576) : checkB L = true ↔ ∃ t : Tr, t.whole ∧ t.fits ∧ rowsT t = L := by
  constructor
  · intro h
    unfold checkB at h
    split at h
    · exact ⟨(Tr.mk none), ⟨trivial, rfl⟩, trivial, rfl⟩
    · split at h
      · rename_i t e
        obtain ⟨a, b, c⟩ := readN_ok _ _ _ _ e
        exact ⟨t, ⟨b, by simpa using h⟩, c, by rw [a]; simp⟩
      · cases h
  · rintro ⟨t, h1, h2, rfl⟩
    exact checkB_rows h1 ⟨h2, by rw [← rowsT_length]; exact hz⟩

theorem below_drewN' (w : World) (n : Nat) : Below w.heap.size w (w.drewN n) := ⟨rfl, rfl, rfl, Nat.le_refl _, fun _ _ => rfl⟩
theorem black_eq (t : Tr) (a : Option Addr) (n : Nat) (w : World) (e : t.bh = n) (h : At w t a) : Calls Try.prog 90 #[.pointer a] w fun e w' => e = .returned (.int .i64 (n : Nat)) ∧ w' = w := by
  subst e; exact black_any t a w h
theorem isRed_eq (t : Tr) (a : Option Addr) (c : Bool) (w : World) (e : t.red = c) (h : At w t a) : Calls Try.prog 76 #[.pointer a] w fun e w' => e = .returned (.bool c) ∧ w' = w := by
  subst e; exact isRed_any t a w h
set_option maxHeartbeats 4000000 in
theorem balanced_ne_t (c : Bool) (l : Tr) (s o n k : Int) (r : Tr) (a : Option Addr) (w : World) (h5 : ((l.bh : Int) == (r.bh : Int)) = false) (h1 : l.red = true) (h : Hid (At w ((Tr.mk (some (c, l, ⟨s, o, n, k⟩, r)))) a)) :
    Calls Try.prog 102 #[.pointer a] w fun e w' => e = .returned (.bool false) ∧ ∃ m, w' = w.drewN m := by
  obtain ⟨b, la, ra, rfl, hn, hl, hr⟩ := h.out
  have HL : Hid (At w l la) := hl
  have HR : Hid (At w r ra) := hr
  have c10 := (ncells hn).c10
  have c11 := (ncells hn).c11
  clear hn hl hr
  go_enter Try.func102, Try.ntmps102
  go_wp2_with (first | (go_at_call_of 76 (Value.pointer la); refine (isRed_any l _ _ HL).mono ?_; rw [h1]; rintro e w' ⟨rfl, rfl⟩)
                     | (go_at_call_of 76 (Value.pointer ra); refine (isRed_any r _ _ HR).mono ?_; rintro e w' ⟨rfl, rfl⟩))
  go_quiet (first | (go_at_call_of 90 (Value.pointer la); exact Calls.quiet_of_same (black_eq l la _ _ rfl (HL.out.keep (below_drewN' _ _))))
                  | (go_at_call_of 90 (Value.pointer ra); exact Calls.quiet_of_same (black_any r ra _ (HR.out.keep (below_drewN' _ _))))
                  | (go_at_call 76; exact Calls.quiet_of_same (isRed_eq _ _ c _ rfl (h.out.keep (below_drewN' _ _)))))
  go_wp2
  go_ret
  exact ⟨rfl, _, rfl⟩
set_option maxHeartbeats 4000000 in
theorem balanced_b_t (l : Tr) (s o n k : Int) (r : Tr) (a : Option Addr) (w : World) (h5 : l.bh = r.bh) (h1 : l.red = true) (h : Hid (At w ((Tr.mk (some (false, l, ⟨s, o, n, k⟩, r)))) a)) :
    Calls Try.prog 102 #[.pointer a] w fun e w' => e = .returned (.bool true) ∧ ∃ m, w' = w.drewN m := by
  obtain ⟨b, la, ra, rfl, hn, hl, hr⟩ := h.out
  have HL : Hid (At w l la) := hl
  have HR : Hid (At w r ra) := hr
  have c10 := (ncells hn).c10
  have c11 := (ncells hn).c11
  clear hn hl hr
  go_enter Try.func102, Try.ntmps102
  go_wp2_with (first | (go_at_call_of 76 (Value.pointer la); refine (isRed_any l _ _ HL).mono ?_; rw [h1]; rintro e w' ⟨rfl, rfl⟩)
                     | (go_at_call_of 76 (Value.pointer ra); refine (isRed_any r _ _ HR).mono ?_; rintro e w' ⟨rfl, rfl⟩))
  go_quiet (first | (go_at_call_of 90 (Value.pointer la); exact Calls.quiet_of_same (black_eq l la _ _ h5 (HL.out.keep (below_drewN' _ _))))
                  | (go_at_call_of 90 (Value.pointer ra); exact Calls.quiet_of_same (black_any r ra _ (HR.out.keep (below_drewN' _ _))))
                  | (go_at_call 76; exact Calls.quiet_of_same (isRed_eq _ _ false _ rfl (h.out.keep (below_drewN' _ _)))))
  go_wp2
  go_ret
  exact ⟨rfl, _, rfl⟩
set_option maxHeartbeats 4000000 in
theorem balanced_r_t (l : Tr) (s o n k : Int) (r : Tr) (a : Option Addr) (w : World) (h5 : l.bh = r.bh) (h1 : l.red = true) (h : Hid (At w ((Tr.mk (some (true, l, ⟨s, o, n, k⟩, r)))) a)) :
    Calls Try.prog 102 #[.pointer a] w fun e w' => e = .returned (.bool false) ∧ ∃ m, w' = w.drewN m := by
  obtain ⟨b, la, ra, rfl, hn, hl, hr⟩ := h.out
  have HL : Hid (At w l la) := hl
  have HR : Hid (At w r ra) := hr
  have c10 := (ncells hn).c10
  have c11 := (ncells hn).c11
  clear hn hl hr
  go_enter Try.func102, Try.ntmps102
  go_wp2_with (first | (go_at_call_of 76 (Value.pointer la); refine (isRed_any l _ _ HL).mono ?_; rw [h1]; rintro e w' ⟨rfl, rfl⟩)
                     | (go_at_call_of 76 (Value.pointer ra); refine (isRed_any r _ _ HR).mono ?_; rintro e w' ⟨rfl, rfl⟩))
  go_quiet (first | (go_at_call_of 90 (Value.pointer la); exact Calls.quiet_of_same (black_eq l la _ _ h5 (HL.out.keep (below_drewN' _ _))))
                  | (go_at_call_of 90 (Value.pointer ra); exact Calls.quiet_of_same (black_any r ra _ (HR.out.keep (below_drewN' _ _))))
                  | (go_at_call 76; exact Calls.quiet_of_same (isRed_eq _ _ true _ rfl (h.out.keep (below_drewN' _ _)))))
  go_wp2
  go_ret
  exact ⟨rfl, _, rfl⟩
set_option maxHeartbeats 4000000 in
theorem balanced_ne_ft (c : Bool) (l : Tr) (s o n k : Int) (r : Tr) (a : Option Addr) (w : World) (h5 : ((l.bh : Int) == (r.bh : Int)) = false) (h1 : l.red = false) (h2 : r.red = true) (h : Hid (At w ((Tr.mk (some (c, l, ⟨s, o, n, k⟩, r)))) a)) :
    Calls Try.prog 102 #[.pointer a] w fun e w' => e = .returned (.bool false) ∧ ∃ m, w' = w.drewN m := by
  obtain ⟨b, la, ra, rfl, hn, hl, hr⟩ := h.out
  have HL : Hid (At w l la) := hl
  have HR : Hid (At w r ra) := hr
  have c10 := (ncells hn).c10
  have c11 := (ncells hn).c11
  clear hn hl hr
  go_enter Try.func102, Try.ntmps102
  go_wp2_with (first | (go_at_call_of 76 (Value.pointer la); refine (isRed_any l _ _ HL).mono ?_; rw [h1]; rintro e w' ⟨rfl, rfl⟩)
                     | (go_at_call_of 76 (Value.pointer ra); refine (isRed_any r _ _ HR).mono ?_; rw [h2]; rintro e w' ⟨rfl, rfl⟩))
  go_quiet (first | (go_at_call_of 90 (Value.pointer la); exact Calls.quiet_of_same (black_eq l la _ _ rfl (HL.out.keep (below_drewN' _ _))))
                  | (go_at_call_of 90 (Value.pointer ra); exact Calls.quiet_of_same (black_any r ra _ (HR.out.keep (below_drewN' _ _))))
                  | (go_at_call 76; exact Calls.quiet_of_same (isRed_eq _ _ c _ rfl (h.out.keep (below_drewN' _ _)))))
  go_wp2
  go_ret
  exact ⟨rfl, _, rfl⟩
set_option maxHeartbeats 4000000 in
theorem balanced_b_ft (l : Tr) (s o n k : Int) (r : Tr) (a : Option Addr) (w : World) (h5 : l.bh = r.bh) (h1 : l.red = false) (h2 : r.red = true) (h : Hid (At w ((Tr.mk (some (false, l, ⟨s, o, n, k⟩, r)))) a)) :
    Calls Try.prog 102 #[.pointer a] w fun e w' => e = .returned (.bool true) ∧ ∃ m, w' = w.drewN m := by
  obtain ⟨b, la, ra, rfl, hn, hl, hr⟩ := h.out
  have HL : Hid (At w l la) := hl
  have HR : Hid (At w r ra) := hr
  have c10 := (ncells hn).c10
  have c11 := (ncells hn).c11
  clear hn hl hr
  go_enter Try.func102, Try.ntmps102
  go_wp2_with (first | (go_at_call_of 76 (Value.pointer la); refine (isRed_any l _ _ HL).mono ?_; rw [h1]; rintro e w' ⟨rfl, rfl⟩)
                     | (go_at_call_of 76 (Value.pointer ra); refine (isRed_any r _ _ HR).mono ?_; rw [h2]; rintro e w' ⟨rfl, rfl⟩))
  go_quiet (first | (go_at_call_of 90 (Value.pointer la); exact Calls.quiet_of_same (black_eq l la _ _ h5 (HL.out.keep (below_drewN' _ _))))
                  | (go_at_call_of 90 (Value.pointer ra); exact Calls.quiet_of_same (black_any r ra _ (HR.out.keep (below_drewN' _ _))))
                  | (go_at_call 76; exact Calls.quiet_of_same (isRed_eq _ _ false _ rfl (h.out.keep (below_drewN' _ _)))))
  go_wp2
  go_ret
  exact ⟨rfl, _, rfl⟩
set_option maxHeartbeats 4000000 in
theorem balanced_r_ft (l : Tr) (s o n k : Int) (r : Tr) (a : Option Addr) (w : World) (h5 : l.bh = r.bh) (h1 : l.red = false) (h2 : r.red = true) (h : Hid (At w ((Tr.mk (some (true, l, ⟨s, o, n, k⟩, r)))) a)) :
    Calls Try.prog 102 #[.pointer a] w fun e w' => e = .returned (.bool false) ∧ ∃ m, w' = w.drewN m := by
  obtain ⟨b, la, ra, rfl, hn, hl, hr⟩ := h.out
  have HL : Hid (At w l la) := hl
  have HR : Hid (At w r ra) := hr
  have c10 := (ncells hn).c10
  have c11 := (ncells hn).c11
  clear hn hl hr
  go_enter Try.func102, Try.ntmps102
  go_wp2_with (first | (go_at_call_of 76 (Value.pointer la); refine (isRed_any l _ _ HL).mono ?_; rw [h1]; rintro e w' ⟨rfl, rfl⟩)
                     | (go_at_call_of 76 (Value.pointer ra); refine (isRed_any r _ _ HR).mono ?_; rw [h2]; rintro e w' ⟨rfl, rfl⟩))
  go_quiet (first | (go_at_call_of 90 (Value.pointer la); exact Calls.quiet_of_same (black_eq l la _ _ h5 (HL.out.keep (below_drewN' _ _))))
                  | (go_at_call_of 90 (Value.pointer ra); exact Calls.quiet_of_same (black_any r ra _ (HR.out.keep (below_drewN' _ _))))
                  | (go_at_call 76; exact Calls.quiet_of_same (isRed_eq _ _ true _ rfl (h.out.keep (below_drewN' _ _)))))
  go_wp2
  go_ret
  exact ⟨rfl, _, rfl⟩
set_option maxHeartbeats 4000000 in
theorem balanced_ne_ff (c : Bool) (l : Tr) (s o n k : Int) (r : Tr) (a : Option Addr) (w : World) (h5 : ((l.bh : Int) == (r.bh : Int)) = false) (h1 : l.red = false) (h2 : r.red = false) (h : Hid (At w ((Tr.mk (some (c, l, ⟨s, o, n, k⟩, r)))) a)) :
    Calls Try.prog 102 #[.pointer a] w fun e w' => e = .returned (.bool false) ∧ ∃ m, w' = w.drewN m := by
  obtain ⟨b, la, ra, rfl, hn, hl, hr⟩ := h.out
  have HL : Hid (At w l la) := hl
  have HR : Hid (At w r ra) := hr
  have c10 := (ncells hn).c10
  have c11 := (ncells hn).c11
  clear hn hl hr
  go_enter Try.func102, Try.ntmps102
  go_wp2_with (first | (go_at_call_of 76 (Value.pointer la); refine (isRed_any l _ _ HL).mono ?_; rw [h1]; rintro e w' ⟨rfl, rfl⟩)
                     | (go_at_call_of 76 (Value.pointer ra); refine (isRed_any r _ _ HR).mono ?_; rw [h2]; rintro e w' ⟨rfl, rfl⟩))
  go_quiet (first | (go_at_call_of 90 (Value.pointer la); exact Calls.quiet_of_same (black_eq l la _ _ rfl (HL.out.keep (below_drewN' _ _))))
                  | (go_at_call_of 90 (Value.pointer ra); exact Calls.quiet_of_same (black_any r ra _ (HR.out.keep (below_drewN' _ _))))
                  | (go_at_call 76; exact Calls.quiet_of_same (isRed_eq _ _ c _ rfl (h.out.keep (below_drewN' _ _)))))
  go_wp2
  go_ret
  exact ⟨rfl, _, rfl⟩
set_option maxHeartbeats 4000000 in
theorem balanced_b_ff (l : Tr) (s o n k : Int) (r : Tr) (a : Option Addr) (w : World) (h5 : l.bh = r.bh) (h1 : l.red = false) (h2 : r.red = false) (h : Hid (At w ((Tr.mk (some (false, l, ⟨s, o, n, k⟩, r)))) a)) :
    Calls Try.prog 102 #[.pointer a] w fun e w' => e = .returned (.bool true) ∧ ∃ m, w' = w.drewN m := by
  obtain ⟨b, la, ra, rfl, hn, hl, hr⟩ := h.out
  have HL : Hid (At w l la) := hl
  have HR : Hid (At w r ra) := hr
  have c10 := (ncells hn).c10
  have c11 := (ncells hn).c11
  clear hn hl hr
  go_enter Try.func102, Try.ntmps102
  go_wp2_with (first | (go_at_call_of 76 (Value.pointer la); refine (isRed_any l _ _ HL).mono ?_; rw [h1]; rintro e w' ⟨rfl, rfl⟩)
                     | (go_at_call_of 76 (Value.pointer ra); refine (isRed_any r _ _ HR).mono ?_; rw [h2]; rintro e w' ⟨rfl, rfl⟩))
  go_quiet (first | (go_at_call_of 90 (Value.pointer la); exact Calls.quiet_of_same (black_eq l la _ _ h5 (HL.out.keep (below_drewN' _ _))))
                  | (go_at_call_of 90 (Value.pointer ra); exact Calls.quiet_of_same (black_any r ra _ (HR.out.keep (below_drewN' _ _))))
                  | (go_at_call 76; exact Calls.quiet_of_same (isRed_eq _ _ false _ rfl (h.out.keep (below_drewN' _ _)))))
  go_wp2
  go_ret
  exact ⟨rfl, _, rfl⟩
set_option maxHeartbeats 4000000 in
theorem balanced_r_ff (l : Tr) (s o n k : Int) (r : Tr) (a : Option Addr) (w : World) (h5 : l.bh = r.bh) (h1 : l.red = false) (h2 : r.red = false) (h : Hid (At w ((Tr.mk (some (true, l, ⟨s, o, n, k⟩, r)))) a)) :
    Calls Try.prog 102 #[.pointer a] w fun e w' => e = .returned (.bool true) ∧ ∃ m, w' = w.drewN m := by
  obtain ⟨b, la, ra, rfl, hn, hl, hr⟩ := h.out
  have HL : Hid (At w l la) := hl
  have HR : Hid (At w r ra) := hr
  have c10 := (ncells hn).c10
  have c11 := (ncells hn).c11
  clear hn hl hr
  go_enter Try.func102, Try.ntmps102
  go_wp2_with (first | (go_at_call_of 76 (Value.pointer la); refine (isRed_any l _ _ HL).mono ?_; rw [h1]; rintro e w' ⟨rfl, rfl⟩)
                     | (go_at_call_of 76 (Value.pointer ra); refine (isRed_any r _ _ HR).mono ?_; rw [h2]; rintro e w' ⟨rfl, rfl⟩))
  go_quiet (first | (go_at_call_of 90 (Value.pointer la); exact Calls.quiet_of_same (black_eq l la _ _ h5 (HL.out.keep (below_drewN' _ _))))
                  | (go_at_call_of 90 (Value.pointer ra); exact Calls.quiet_of_same (black_any r ra _ (HR.out.keep (below_drewN' _ _))))
                  | (go_at_call 76; exact Calls.quiet_of_same (isRed_eq _ _ true _ rfl (h.out.keep (below_drewN' _ _)))))
  go_wp2
  go_ret
  exact ⟨rfl, _, rfl⟩
theorem balanced_any (c : Bool) (l : Tr) (s o n k : Int) (r : Tr) (a : Option Addr) (w : World) (h : At w ((Tr.mk (some (c, l, ⟨s, o, n, k⟩, r)))) a) :
    Calls Try.prog 102 #[.pointer a] w fun e w' => e = .returned (.bool (balB c l r)) ∧ ∃ m, w' = w.drewN m := by
  by_cases h3 : l.bh = r.bh
  · cases h1 : l.red with
    | true =>
      cases c with
      | false => rw [show balB false l r = true from by simp [balB, h3]]; exact balanced_b_t l s o n k r a w h3 h1 h
      | true => rw [show balB true l r = false from by simp [balB, h1]]; exact balanced_r_t l s o n k r a w h3 h1 h
    | false =>
      cases h2 : r.red with
      | true =>
        cases c with
        | false => rw [show balB false l r = true from by simp [balB, h3]]; exact balanced_b_ft l s o n k r a w h3 h1 h2 h
        | true => rw [show balB true l r = false from by simp [balB, h2]]; exact balanced_r_ft l s o n k r a w h3 h1 h2 h
      | false =>
        cases c with
        | false => rw [show balB false l r = true from by simp [balB, h3]]; exact balanced_b_ff l s o n k r a w h3 h1 h2 h
        | true => rw [show balB true l r = true from by simp [balB, h1, h2, h3]]; exact balanced_r_ff l s o n k r a w h3 h1 h2 h
  · rw [show balB c l r = false from by simp [balB, h3]]
    cases h1 : l.red with
    | true => exact balanced_ne_t c l s o n k r a w (ne_bh h3) h1 h
    | false =>
      cases h2 : r.red with
      | true => exact balanced_ne_ft c l s o n k r a w (ne_bh h3) h1 h2 h
      | false => exact balanced_ne_ff c l s o n k r a w (ne_bh h3) h1 h2 h
end Go.Proofs.Ytpifjghhlcjedaa

namespace Go.Proofs.Ytpifjghhlcjedaa
open Go.RowKit

/-- The rows of L lie one behind the other in block b of W, from the cell off on. -/
def RowR (W : World) (b off : Nat) (L : List Rw) : Prop :=
  ∀ j x, L[j]? = some x → W.cell? ⟨b, off + j * 10, none⟩ = some (.int .i64 x.p.s) ∧ W.cell? ⟨b, off + j * 10 + 1, none⟩ = some (.int .i64 x.p.o) ∧ W.cell? ⟨b, off + j * 10 + 2, none⟩ = some (.int .i64 x.p.l) ∧ W.cell? ⟨b, off + j * 10 + 3, none⟩ = some (.int .i64 x.p.n) ∧ W.cell? ⟨b, off + j * 10 + 4, none⟩ = some (.bool x.red) ∧ W.cell? ⟨b, off + j * 10 + 5, none⟩ = some (.bool x.left) ∧ W.cell? ⟨b, off + j * 10 + 6, none⟩ = some (.bool x.right) ∧ W.cell? ⟨b, off + j * 10 + 7, none⟩ = some (.int .i64 x.cnt) ∧ W.cell? ⟨b, off + j * 10 + 8, none⟩ = some (.int .i64 x.byt) ∧ W.cell? ⟨b, off + j * 10 + 9, none⟩ = some (.int .i64 x.lin)
theorem RowR.keep {w w' : World} {b off : Nat} {L : List Rw} (h : RowR w b off L) (hb : Below w.heap.size w w') : RowR w' b off L := by
  intro j p hj
  obtain ⟨h0, h1, h2, h3, h4, h5, h6, h7, h8, h9⟩ := h j p hj
  have lt := cell_lt h0
  refine ⟨?_, ?_, ?_, ?_, ?_, ?_, ?_, ?_, ?_, ?_⟩ <;> (rw [hb.cell lt]; assumption)
theorem RowR.drop {w : World} {b off : Nat} {L : List Rw} (h : RowR w b off L) (m : Nat) : RowR w b (off + m * 10) (L.drop m) := by
  intro j p hj
  rw [List.getElem?_drop] at hj
  have := h (m + j) p hj
  rw [show off + (m + j) * 10 = off + m * 10 + j * 10 from by omega] at this
  exact this

/-- A list value whose rows are L. -/
def Rdr (W : World) (v : Value) (L : List Rw) : Prop := ∃ ao n c, v = .slice ao n c ∧ n = L.length ∧ n ≤ c ∧ (L = [] ∨ ∃ b off, ao = some ⟨b, off, none⟩ ∧ RowR W b off L)
theorem Rdr.keep {w w' : World} {v : Value} {L : List Rw} (h : Rdr w v L) (hb : Below w.heap.size w w') : Rdr w' v L := by
  obtain ⟨ao, n, c, h1, h2, h3, h4⟩ := h
  refine ⟨ao, n, c, h1, h2, h3, ?_⟩
  rcases h4 with h4 | ⟨b, off, h5, h6⟩
  · exact .inl h4
  · exact .inr ⟨b, off, h5, h6.keep hb⟩

/-- What reading gives. -/
def RdGave (w : World) : Option (Tr × List Rw) → Ending → World → Prop
  | none, e, w' => (∃ v1 v2, e = .returned (.tuple #[v1, v2, .bool false])) ∧ Below w.heap.size w w'
  | some (t, rest), e, w' => (∃ a ao n c, e = .returned (.tuple #[.pointer a, .slice ao n c, .bool true]) ∧ At w' t a ∧ Rdr w' (.slice ao n c) rest) ∧ Below w.heap.size w w'

set_option maxHeartbeats 400000 in
theorem readNode_nil (ao : Option Addr) (c : Nat) (h : Int) (w : World) : Calls Try.prog 74 #[.slice ao 0 c, .int .i64 h] w fun e w' => RdGave w none e w' := by
  go_enter Try.func74, Try.ntmps74
  go_wp2
  go_ret3
  exact ⟨⟨_, _, rfl⟩, Below.refl _ _⟩
set_option maxHeartbeats 400000 in
theorem readNode_zero (ao : Option Addr) (n c : Nat) (w : World) (hn : ((n : Int) == 0) = false) : Calls Try.prog 74 #[.slice ao n c, .int .i64 0] w fun e w' => RdGave w none e w' := by
  go_enter Try.func74, Try.ntmps74
  go_wp2
  go_ret3
  exact ⟨⟨_, _, rfl⟩, Below.refl _ _⟩
set_option maxHeartbeats 400000 in
theorem readNode_unfit (b off n c : Nat) (h : Nat) (ps po pl pn : Int) (w : World) (hn : ((n : Int) == 0) = false) (hnp : (0 : Int) < (n : Int)) (hf : fitB pl pn = false)
    (r0 : w.cell? ⟨b, off, none⟩ = some (.int .i64 ps)) (r1 : w.cell? ⟨b, off + 1, none⟩ = some (.int .i64 po)) (r2 : w.cell? ⟨b, off + 2, none⟩ = some (.int .i64 pl)) (r3 : w.cell? ⟨b, off + 3, none⟩ = some (.int .i64 pn)) :
    Calls Try.prog 74 #[.slice (some ⟨b, off, none⟩) n c, .int .i64 ((h + 1 : Nat) : Int)] w fun e w' => RdGave w none e w' := by
  go_enter Try.func74, Try.ntmps74
  go_wp2_with (go_at_call 53; refine (fit_any ps po pl pn _).mono ?_; rw [hf]; rintro e w' ⟨rfl, rfl⟩)
  go_ret3
  exact ⟨⟨_, _, rfl⟩, bAlloc (Below.refl _ _) _⟩

theorem balanced_drewN (c : Bool) (l : Tr) (s o n k : Int) (r : Tr) (a : Option Addr) (w : World) (i : Nat) (h : At w ((Tr.mk (some (c, l, ⟨s, o, n, k⟩, r)))) a) :
    Calls Try.prog 102 #[.pointer a] (w.drewN i) fun e w' => e = .returned (.bool (balB c l r)) ∧ ∃ m, w' = (w.drewN i).drewN m :=
  balanced_any c l s o n k r a _ (h.keep (below_drewN' _ _))

end Go.Proofs.Ytpifjghhlcjedaa

namespace Go.Proofs.Ytpifjghhlcjedaa
open Go.RowKit

set_option maxRecDepth 100000 in
set_option maxHeartbeats 4000000 in
theorem readNode_left (b off n c : Nat) (h : Nat) (A : Addr) (ps po pl pn : Int) (xr : Bool) (xl xg : Bool) (xc xb xn : Int) (w : World) (hn : ((n : Int) == 0) = false) (hnp : (0 : Int) < (n : Int)) (hn1 : (1 : Int) ≤ (n : Int)) (_hnc : (n : Int) ≤ (c : Int)) (_h1c : (1 : Int) ≤ (c : Int)) (hw : IntKind.i64.wrap (h : Int) = (h : Int)) (hw' : wrap64 (h : Int) = (h : Int)) (hf : fitB pl pn = true)
    (hA : (if c = 1 then some (⟨b, off, none⟩ : Addr) else some ⟨b, off + 10, none⟩) = some A)
    (r0 : w.cell? ⟨b, off, none⟩ = some (.int .i64 ps)) (r1 : w.cell? ⟨b, off + 1, none⟩ = some (.int .i64 po)) (r2 : w.cell? ⟨b, off + 2, none⟩ = some (.int .i64 pl)) (r3 : w.cell? ⟨b, off + 3, none⟩ = some (.int .i64 pn)) (r4 : w.cell? ⟨b, off + 4, none⟩ = some (.bool xr)) (r5 : w.cell? ⟨b, off + 5, none⟩ = some (.bool xl)) (r6 : w.cell? ⟨b, off + 6, none⟩ = some (.bool xg)) (r7 : w.cell? ⟨b, off + 7, none⟩ = some (.int .i64 xc)) (r8 : w.cell? ⟨b, off + 8, none⟩ = some (.int .i64 xb)) (r9 : w.cell? ⟨b, off + 9, none⟩ = some (.int .i64 xn))
    (hlt : b < w.heap.size) 
    (K1 : Hid (∀ w', Below w.heap.size w w' → Calls Try.prog 101 #[.bool xl, .slice (some A) (n - 1) (c - 1), .int .i64 (h : Int)] w' fun e w'' => RdGave w' none e w''))
    :
    Calls Try.prog 74 #[.slice (some ⟨b, off, none⟩) n c, .int .i64 ((h + 1 : Nat) : Int)] w fun e w' => RdGave w none e w' := by
  go_enter Try.func74, Try.ntmps74
  go_wp2_with (go_at_call 53; refine (fit_any ps po pl pn _).mono ?_; rw [hf]; rintro e w' ⟨rfl, rfl⟩)
  go_region_held3 (fun w' => w'.cell? ⟨w.heap.size + 1, 5, none⟩ = some (.bool xl)) (first | assumption | simp [*, go_sem])
    (first | (go_at_call 101; refine (K1.out _ ((bAlloc (bAlloc (Below.refl w.heap.size w) _) _).drew)).mono ?_; rintro e w9 ⟨⟨v1, v2, rfl⟩, hb9⟩; have L9 := bD hb9; obtain ⟨cc9, ff9⟩ := bcell L9; have k9 : w9.cell? ⟨w.heap.size + 1, 5, none⟩ = some (.bool xl) := by rw [cc9 _ _ (by simp)]; simp))
  go_wp2_with fail
  go_ret3
  exact ⟨⟨_, _, rfl⟩, bA2 L9⟩
end Go.Proofs.Ytpifjghhlcjedaa

namespace Go.Proofs.Ytpifjghhlcjedaa
open Go.RowKit

set_option maxRecDepth 100000 in
set_option maxHeartbeats 4000000 in
theorem readNode_right (b off n c : Nat) (h : Nat) (A : Addr) (ps po pl pn : Int) (xr : Bool) (xl xg : Bool) (xc xb xn : Int) (l : Tr) (L1 : List Rw) (w : World) (hn : ((n : Int) == 0) = false) (hnp : (0 : Int) < (n : Int)) (hn1 : (1 : Int) ≤ (n : Int)) (_hnc : (n : Int) ≤ (c : Int)) (_h1c : (1 : Int) ≤ (c : Int)) (hw : IntKind.i64.wrap (h : Int) = (h : Int)) (hw' : wrap64 (h : Int) = (h : Int)) (hf : fitB pl pn = true)
    (hA : (if c = 1 then some (⟨b, off, none⟩ : Addr) else some ⟨b, off + 10, none⟩) = some A)
    (r0 : w.cell? ⟨b, off, none⟩ = some (.int .i64 ps)) (r1 : w.cell? ⟨b, off + 1, none⟩ = some (.int .i64 po)) (r2 : w.cell? ⟨b, off + 2, none⟩ = some (.int .i64 pl)) (r3 : w.cell? ⟨b, off + 3, none⟩ = some (.int .i64 pn)) (r4 : w.cell? ⟨b, off + 4, none⟩ = some (.bool xr)) (r5 : w.cell? ⟨b, off + 5, none⟩ = some (.bool xl)) (r6 : w.cell? ⟨b, off + 6, none⟩ = some (.bool xg)) (r7 : w.cell? ⟨b, off + 7, none⟩ = some (.int .i64 xc)) (r8 : w.cell? ⟨b, off + 8, none⟩ = some (.int .i64 xb)) (r9 : w.cell? ⟨b, off + 9, none⟩ = some (.int .i64 xn))
    (hlt : b < w.heap.size) 
    (K1 : Hid (∀ w', Below w.heap.size w w' → Calls Try.prog 101 #[.bool xl, .slice (some A) (n - 1) (c - 1), .int .i64 (h : Int)] w' fun e w'' => RdGave w' (some (l, L1)) e w''))
    (K2 : Hid (∀ w' ao n c, Rdr w' (.slice ao n c) L1 → Calls Try.prog 101 #[.bool xg, .slice ao n c, .int .i64 (h : Int)] w' fun e w'' => RdGave w' none e w''))
    :
    Calls Try.prog 74 #[.slice (some ⟨b, off, none⟩) n c, .int .i64 ((h + 1 : Nat) : Int)] w fun e w' => RdGave w none e w' := by
  go_enter Try.func74, Try.ntmps74
  go_wp2_with (go_at_call 53; refine (fit_any ps po pl pn _).mono ?_; rw [hf]; rintro e w' ⟨rfl, rfl⟩)
  go_region_held3 (fun w' => w'.cell? ⟨w.heap.size + 1, 5, none⟩ = some (.bool xl)) (first | assumption | simp [*, go_sem])
    (first | (go_at_call 101; refine (K1.out _ ((bAlloc (bAlloc (Below.refl w.heap.size w) _) _).drew)).mono ?_; rintro e w9 ⟨⟨la, ao9, n9, c9, rfl, hat9, hrd9⟩, hb9⟩; have L9 := bD hb9; obtain ⟨cc9, ff9⟩ := bcell L9; have k9 : w9.cell? ⟨w.heap.size + 1, 5, none⟩ = some (.bool xl) := by rw [cc9 _ _ (by simp)]; simp))
  clear k9 r0 r1 r2 r3 r4 r5 r6 r7 r8 r9 hA K1
  go_wp2_with (go_at_call 101; refine (K2.out _ _ _ _ hrd9).mono ?_; rintro e w8 ⟨⟨v1, v2, rfl⟩, hb8⟩; have L8 := L9.trans (hb8.mono L9.size); obtain ⟨cc8, ff8⟩ := bcell L8)
  go_ret3
  exact ⟨⟨_, _, rfl⟩, bA2 L8⟩
end Go.Proofs.Ytpifjghhlcjedaa

namespace Go.Proofs.Ytpifjghhlcjedaa
open Go.RowKit

set_option maxRecDepth 100000 in
set_option maxHeartbeats 4000000 in
theorem readNode_eq (b off n c : Nat) (h : Nat) (A : Addr) (ps po pl pn : Int) (xr : Bool) (l r : Tr) (L1 L2 : List Rw) (w : World) (hn : ((n : Int) == 0) = false) (hnp : (0 : Int) < (n : Int)) (hn1 : (1 : Int) ≤ (n : Int)) (_hnc : (n : Int) ≤ (c : Int)) (_h1c : (1 : Int) ≤ (c : Int)) (hw : IntKind.i64.wrap (h : Int) = (h : Int)) (hw' : wrap64 (h : Int) = (h : Int)) (hf : fitB pl pn = true)
    (hA : (if c = 1 then some (⟨b, off, none⟩ : Addr) else some ⟨b, off + 10, none⟩) = some A)
    (r0 : w.cell? ⟨b, off, none⟩ = some (.int .i64 ps)) (r1 : w.cell? ⟨b, off + 1, none⟩ = some (.int .i64 po)) (r2 : w.cell? ⟨b, off + 2, none⟩ = some (.int .i64 pl)) (r3 : w.cell? ⟨b, off + 3, none⟩ = some (.int .i64 pn)) (r4 : w.cell? ⟨b, off + 4, none⟩ = some (.bool xr)) (r5 : w.cell? ⟨b, off + 5, none⟩ = some (.bool l.has)) (r6 : w.cell? ⟨b, off + 6, none⟩ = some (.bool r.has)) (r7 : w.cell? ⟨b, off + 7, none⟩ = some (.int .i64 (((Tr.mk (some (xr, l, ⟨ps, po, pl, pn⟩, r)))).size : Nat))) (r8 : w.cell? ⟨b, off + 8, none⟩ = some (.int .i64 ((Tr.mk (some (xr, l, ⟨ps, po, pl, pn⟩, r)))).byt)) (r9 : w.cell? ⟨b, off + 9, none⟩ = some (.int .i64 ((Tr.mk (some (xr, l, ⟨ps, po, pl, pn⟩, r)))).lin))
    (hlt : b < w.heap.size) (hfi : Hid ((Tr.mk (some (xr, l, ⟨ps, po, pl, pn⟩, r)))).fine) 
    (K1 : Hid (∀ w', Below w.heap.size w w' → Calls Try.prog 101 #[.bool l.has, .slice (some A) (n - 1) (c - 1), .int .i64 (h : Int)] w' fun e w'' => RdGave w' (some (l, L1)) e w''))
    (K2 : Hid (∀ w' ao n c, Rdr w' (.slice ao n c) L1 → Calls Try.prog 101 #[.bool r.has, .slice ao n c, .int .i64 (h : Int)] w' fun e w'' => RdGave w' (some (r, L2)) e w''))
    :
    Calls Try.prog 74 #[.slice (some ⟨b, off, none⟩) n c, .int .i64 ((h + 1 : Nat) : Int)] w fun e w' => (∃ a ao n c, e = .returned (.tuple #[.pointer a, .slice ao n c, .bool (balB xr l r)]) ∧ At w' ((Tr.mk (some (xr, l, ⟨ps, po, pl, pn⟩, r)))) a ∧ Rdr w' (.slice ao n c) L2) ∧ Below w.heap.size w w' := by
  go_enter Try.func74, Try.ntmps74
  go_wp2_with (go_at_call 53; refine (fit_any ps po pl pn _).mono ?_; rw [hf]; rintro e w' ⟨rfl, rfl⟩)
  go_region_held3 (fun w' => w'.cell? ⟨w.heap.size + 1, 5, none⟩ = some (.bool l.has)) (first | assumption | simp [*, go_sem])
    (first | (go_at_call 101; refine (K1.out _ ((bAlloc (bAlloc (Below.refl w.heap.size w) _) _).drew)).mono ?_; rintro e w9 ⟨⟨la, ao9, n9, c9, rfl, hat9, hrd9⟩, hb9⟩; have L9 := bD hb9; obtain ⟨cc9, ff9⟩ := bcell L9; have k9 : w9.cell? ⟨w.heap.size + 1, 5, none⟩ = some (.bool l.has) := by rw [cc9 _ _ (by simp)]; simp))
  clear k9 r0 r1 r2 r3 r4 r5 r6 r7 r8 r9 hA K1
  go_wp2_with (first | (go_at_call 101; refine (K2.out _ _ _ _ hrd9).mono ?_; rintro e w8 ⟨⟨ra, ao8, n8, c8, rfl, hat8, hrd8⟩, hb8⟩; have L8 := L9.trans (hb8.mono L9.size); obtain ⟨cc8, ff8⟩ := bcell L8)
                     | (go_at_call 91; refine (make_any xr l ps po pl pn r la ra _ hfi (hat9.keep hb8) hat8).mono ?_; rintro e w7 ⟨b7, rfl, hat7, hb7⟩; have L7 := L8.trans (hb7.mono L8.size); have q7 := bcell L7))
  obtain ⟨cc7, -⟩ := q7
  have q0 : w7.cell? ⟨w.heap.size + 1, 0, none⟩ = some (.int .i64 ps) := by rw [cc7 _ _ (by simp)]; simp
  have q1 : w7.cell? ⟨w.heap.size + 1, 1, none⟩ = some (.int .i64 po) := by rw [cc7 _ _ (by simp)]; simp
  have q2 : w7.cell? ⟨w.heap.size + 1, 2, none⟩ = some (.int .i64 pl) := by rw [cc7 _ _ (by simp)]; simp
  have q3 : w7.cell? ⟨w.heap.size + 1, 3, none⟩ = some (.int .i64 pn) := by rw [cc7 _ _ (by simp)]; simp
  have q4 : w7.cell? ⟨w.heap.size + 1, 4, none⟩ = some (.bool xr) := by rw [cc7 _ _ (by simp)]; simp
  have q5 : w7.cell? ⟨w.heap.size + 1, 5, none⟩ = some (.bool l.has) := by rw [cc7 _ _ (by simp)]; simp
  have q6 : w7.cell? ⟨w.heap.size + 1, 6, none⟩ = some (.bool r.has) := by rw [cc7 _ _ (by simp)]; simp
  have q7 : w7.cell? ⟨w.heap.size + 1, 7, none⟩ = some (.int .i64 (((Tr.mk (some (xr, l, ⟨ps, po, pl, pn⟩, r)))).size : Nat)) := by rw [cc7 _ _ (by simp)]; simp
  have q8 : w7.cell? ⟨w.heap.size + 1, 8, none⟩ = some (.int .i64 ((Tr.mk (some (xr, l, ⟨ps, po, pl, pn⟩, r)))).byt) := by rw [cc7 _ _ (by simp)]; simp
  have q9 : w7.cell? ⟨w.heap.size + 1, 9, none⟩ = some (.int .i64 ((Tr.mk (some (xr, l, ⟨ps, po, pl, pn⟩, r)))).lin) := by rw [cc7 _ _ (by simp)]; simp
  obtain ⟨b', la', ra', eb, hn7, -, -⟩ := id hat7
  have eb' : b' = b7 := by simpa using eb.symm
  subst eb'
  obtain ⟨d0, d1, d2, d3, d4, d5, d6, d7, d8, d9, d10, d11⟩ := s12 hn7
  have HA7 : Hid (At w7 ((Tr.mk (some (xr, l, ⟨ps, po, pl, pn⟩, r)))) (some ⟨b', 0, none⟩)) := hat7
  have HRD : Hid (Rdr w7 (.slice ao8 n8 c8) L2 ∧ Below w.heap.size w w7) := ⟨hrd8.keep hb7, bA2 L7⟩
  clear eb hn7 hat7 hat8 hat9 hrd8 hrd9 hb7 hb8 hb9 L7 L8 L9 cc7 cc8 cc9 ff8 ff9 K2
  go_quiet (first | (go_at_call 102; exact Calls.quiet_of (balanced_drewN xr l ps po pl pn r _ _ _ HA7.out)))
  go_wp2
  go_ret3
  exact ⟨⟨_, _, _, _, rfl, HA7.out.keep (below_drewN' _ _), HRD.out.1.keep (below_drewN' _ _)⟩, HRD.out.2.trans ((below_drewN' _ _).mono HRD.out.2.size)⟩
end Go.Proofs.Ytpifjghhlcjedaa

namespace Go.Proofs.Ytpifjghhlcjedaa
open Go.RowKit

set_option maxRecDepth 100000 in
set_option maxHeartbeats 4000000 in
theorem readNode_ne1 (b off n c : Nat) (h : Nat) (A : Addr) (ps po pl pn : Int) (xr : Bool) (l r : Tr) (L1 L2 : List Rw) (xc xb xn : Int) (w : World) (hn : ((n : Int) == 0) = false) (hnp : (0 : Int) < (n : Int)) (hn1 : (1 : Int) ≤ (n : Int)) (_hnc : (n : Int) ≤ (c : Int)) (_h1c : (1 : Int) ≤ (c : Int)) (hw : IntKind.i64.wrap (h : Int) = (h : Int)) (hw' : wrap64 (h : Int) = (h : Int)) (hf : fitB pl pn = true)
    (hA : (if c = 1 then some (⟨b, off, none⟩ : Addr) else some ⟨b, off + 10, none⟩) = some A)
    (r0 : w.cell? ⟨b, off, none⟩ = some (.int .i64 ps)) (r1 : w.cell? ⟨b, off + 1, none⟩ = some (.int .i64 po)) (r2 : w.cell? ⟨b, off + 2, none⟩ = some (.int .i64 pl)) (r3 : w.cell? ⟨b, off + 3, none⟩ = some (.int .i64 pn)) (r4 : w.cell? ⟨b, off + 4, none⟩ = some (.bool xr)) (r5 : w.cell? ⟨b, off + 5, none⟩ = some (.bool l.has)) (r6 : w.cell? ⟨b, off + 6, none⟩ = some (.bool r.has)) (r7 : w.cell? ⟨b, off + 7, none⟩ = some (.int .i64 xc)) (r8 : w.cell? ⟨b, off + 8, none⟩ = some (.int .i64 xb)) (r9 : w.cell? ⟨b, off + 9, none⟩ = some (.int .i64 xn))
    (hlt : b < w.heap.size) (hfi : Hid ((Tr.mk (some (xr, l, ⟨ps, po, pl, pn⟩, r)))).fine) (hne : (((((Tr.mk (some (xr, l, ⟨ps, po, pl, pn⟩, r)))).size : Nat) : Int) = xc) = False)
    (K1 : Hid (∀ w', Below w.heap.size w w' → Calls Try.prog 101 #[.bool l.has, .slice (some A) (n - 1) (c - 1), .int .i64 (h : Int)] w' fun e w'' => RdGave w' (some (l, L1)) e w''))
    (K2 : Hid (∀ w' ao n c, Rdr w' (.slice ao n c) L1 → Calls Try.prog 101 #[.bool r.has, .slice ao n c, .int .i64 (h : Int)] w' fun e w'' => RdGave w' (some (r, L2)) e w''))
    :
    Calls Try.prog 74 #[.slice (some ⟨b, off, none⟩) n c, .int .i64 ((h + 1 : Nat) : Int)] w fun e w' => (∃ a ao n c, e = .returned (.tuple #[.pointer a, .slice ao n c, .bool false]) ∧ At w' ((Tr.mk (some (xr, l, ⟨ps, po, pl, pn⟩, r)))) a ∧ Rdr w' (.slice ao n c) L2) ∧ Below w.heap.size w w' := by
  go_enter Try.func74, Try.ntmps74
  go_wp2_with (go_at_call 53; refine (fit_any ps po pl pn _).mono ?_; rw [hf]; rintro e w' ⟨rfl, rfl⟩)
  go_region_held3 (fun w' => w'.cell? ⟨w.heap.size + 1, 5, none⟩ = some (.bool l.has)) (first | assumption | simp [*, go_sem])
    (first | (go_at_call 101; refine (K1.out _ ((bAlloc (bAlloc (Below.refl w.heap.size w) _) _).drew)).mono ?_; rintro e w9 ⟨⟨la, ao9, n9, c9, rfl, hat9, hrd9⟩, hb9⟩; have L9 := bD hb9; obtain ⟨cc9, ff9⟩ := bcell L9; have k9 : w9.cell? ⟨w.heap.size + 1, 5, none⟩ = some (.bool l.has) := by rw [cc9 _ _ (by simp)]; simp))
  clear k9 r0 r1 r2 r3 r4 r5 r6 r7 r8 r9 hA K1
  go_wp2_with (first | (go_at_call 101; refine (K2.out _ _ _ _ hrd9).mono ?_; rintro e w8 ⟨⟨ra, ao8, n8, c8, rfl, hat8, hrd8⟩, hb8⟩; have L8 := L9.trans (hb8.mono L9.size); obtain ⟨cc8, ff8⟩ := bcell L8)
                     | (go_at_call 91; refine (make_any xr l ps po pl pn r la ra _ hfi (hat9.keep hb8) hat8).mono ?_; rintro e w7 ⟨b7, rfl, hat7, hb7⟩; have L7 := L8.trans (hb7.mono L8.size); have q7 := bcell L7))
  obtain ⟨cc7, -⟩ := q7
  have q0 : w7.cell? ⟨w.heap.size + 1, 0, none⟩ = some (.int .i64 ps) := by rw [cc7 _ _ (by simp)]; simp
  have q1 : w7.cell? ⟨w.heap.size + 1, 1, none⟩ = some (.int .i64 po) := by rw [cc7 _ _ (by simp)]; simp
  have q2 : w7.cell? ⟨w.heap.size + 1, 2, none⟩ = some (.int .i64 pl) := by rw [cc7 _ _ (by simp)]; simp
  have q3 : w7.cell? ⟨w.heap.size + 1, 3, none⟩ = some (.int .i64 pn) := by rw [cc7 _ _ (by simp)]; simp
  have q4 : w7.cell? ⟨w.heap.size + 1, 4, none⟩ = some (.bool xr) := by rw [cc7 _ _ (by simp)]; simp
  have q5 : w7.cell? ⟨w.heap.size + 1, 5, none⟩ = some (.bool l.has) := by rw [cc7 _ _ (by simp)]; simp
  have q6 : w7.cell? ⟨w.heap.size + 1, 6, none⟩ = some (.bool r.has) := by rw [cc7 _ _ (by simp)]; simp
  have q7 : w7.cell? ⟨w.heap.size + 1, 7, none⟩ = some (.int .i64 xc) := by rw [cc7 _ _ (by simp)]; simp
  have q8 : w7.cell? ⟨w.heap.size + 1, 8, none⟩ = some (.int .i64 xb) := by rw [cc7 _ _ (by simp)]; simp
  have q9 : w7.cell? ⟨w.heap.size + 1, 9, none⟩ = some (.int .i64 xn) := by rw [cc7 _ _ (by simp)]; simp
  obtain ⟨b', la', ra', eb, hn7, -, -⟩ := id hat7
  have eb' : b' = b7 := by simpa using eb.symm
  subst eb'
  obtain ⟨d0, d1, d2, d3, d4, d5, d6, d7, d8, d9, d10, d11⟩ := s12 hn7
  have HA7 : Hid (At w7 ((Tr.mk (some (xr, l, ⟨ps, po, pl, pn⟩, r)))) (some ⟨b', 0, none⟩)) := hat7
  have HRD : Hid (Rdr w7 (.slice ao8 n8 c8) L2 ∧ Below w.heap.size w w7) := ⟨hrd8.keep hb7, bA2 L7⟩
  clear eb hn7 hat7 hat8 hat9 hrd8 hrd9 hb7 hb8 hb9 L7 L8 L9 cc7 cc8 cc9 ff8 ff9 K2
  go_quiet (first | (go_at_call 102; exact Calls.quiet_of (balanced_drewN xr l ps po pl pn r _ _ _ HA7.out)))
  go_wp2
  go_ret3
  exact ⟨⟨_, _, _, _, rfl, HA7.out.keep (below_drewN' _ _), HRD.out.1.keep (below_drewN' _ _)⟩, HRD.out.2.trans ((below_drewN' _ _).mono HRD.out.2.size)⟩
end Go.Proofs.Ytpifjghhlcjedaa

namespace Go.Proofs.Ytpifjghhlcjedaa
open Go.RowKit

set_option maxRecDepth 100000 in
set_option maxHeartbeats 4000000 in
theorem readNode_ne2 (b off n c : Nat) (h : Nat) (A : Addr) (ps po pl pn : Int) (xr : Bool) (l r : Tr) (L1 L2 : List Rw) (xb xn : Int) (w : World) (hn : ((n : Int) == 0) = false) (hnp : (0 : Int) < (n : Int)) (hn1 : (1 : Int) ≤ (n : Int)) (_hnc : (n : Int) ≤ (c : Int)) (_h1c : (1 : Int) ≤ (c : Int)) (hw : IntKind.i64.wrap (h : Int) = (h : Int)) (hw' : wrap64 (h : Int) = (h : Int)) (hf : fitB pl pn = true)
    (hA : (if c = 1 then some (⟨b, off, none⟩ : Addr) else some ⟨b, off + 10, none⟩) = some A)
    (r0 : w.cell? ⟨b, off, none⟩ = some (.int .i64 ps)) (r1 : w.cell? ⟨b, off + 1, none⟩ = some (.int .i64 po)) (r2 : w.cell? ⟨b, off + 2, none⟩ = some (.int .i64 pl)) (r3 : w.cell? ⟨b, off + 3, none⟩ = some (.int .i64 pn)) (r4 : w.cell? ⟨b, off + 4, none⟩ = some (.bool xr)) (r5 : w.cell? ⟨b, off + 5, none⟩ = some (.bool l.has)) (r6 : w.cell? ⟨b, off + 6, none⟩ = some (.bool r.has)) (r7 : w.cell? ⟨b, off + 7, none⟩ = some (.int .i64 (((Tr.mk (some (xr, l, ⟨ps, po, pl, pn⟩, r)))).size : Nat))) (r8 : w.cell? ⟨b, off + 8, none⟩ = some (.int .i64 xb)) (r9 : w.cell? ⟨b, off + 9, none⟩ = some (.int .i64 xn))
    (hlt : b < w.heap.size) (hfi : Hid ((Tr.mk (some (xr, l, ⟨ps, po, pl, pn⟩, r)))).fine) (hne : (((Tr.mk (some (xr, l, ⟨ps, po, pl, pn⟩, r)))).byt = xb) = False)
    (K1 : Hid (∀ w', Below w.heap.size w w' → Calls Try.prog 101 #[.bool l.has, .slice (some A) (n - 1) (c - 1), .int .i64 (h : Int)] w' fun e w'' => RdGave w' (some (l, L1)) e w''))
    (K2 : Hid (∀ w' ao n c, Rdr w' (.slice ao n c) L1 → Calls Try.prog 101 #[.bool r.has, .slice ao n c, .int .i64 (h : Int)] w' fun e w'' => RdGave w' (some (r, L2)) e w''))
    :
    Calls Try.prog 74 #[.slice (some ⟨b, off, none⟩) n c, .int .i64 ((h + 1 : Nat) : Int)] w fun e w' => (∃ a ao n c, e = .returned (.tuple #[.pointer a, .slice ao n c, .bool false]) ∧ At w' ((Tr.mk (some (xr, l, ⟨ps, po, pl, pn⟩, r)))) a ∧ Rdr w' (.slice ao n c) L2) ∧ Below w.heap.size w w' := by
  go_enter Try.func74, Try.ntmps74
  go_wp2_with (go_at_call 53; refine (fit_any ps po pl pn _).mono ?_; rw [hf]; rintro e w' ⟨rfl, rfl⟩)
  go_region_held3 (fun w' => w'.cell? ⟨w.heap.size + 1, 5, none⟩ = some (.bool l.has)) (first | assumption | simp [*, go_sem])
    (first | (go_at_call 101; refine (K1.out _ ((bAlloc (bAlloc (Below.refl w.heap.size w) _) _).drew)).mono ?_; rintro e w9 ⟨⟨la, ao9, n9, c9, rfl, hat9, hrd9⟩, hb9⟩; have L9 := bD hb9; obtain ⟨cc9, ff9⟩ := bcell L9; have k9 : w9.cell? ⟨w.heap.size + 1, 5, none⟩ = some (.bool l.has) := by rw [cc9 _ _ (by simp)]; simp))
  clear k9 r0 r1 r2 r3 r4 r5 r6 r7 r8 r9 hA K1
  go_wp2_with (first | (go_at_call 101; refine (K2.out _ _ _ _ hrd9).mono ?_; rintro e w8 ⟨⟨ra, ao8, n8, c8, rfl, hat8, hrd8⟩, hb8⟩; have L8 := L9.trans (hb8.mono L9.size); obtain ⟨cc8, ff8⟩ := bcell L8)
                     | (go_at_call 91; refine (make_any xr l ps po pl pn r la ra _ hfi (hat9.keep hb8) hat8).mono ?_; rintro e w7 ⟨b7, rfl, hat7, hb7⟩; have L7 := L8.trans (hb7.mono L8.size); have q7 := bcell L7))
  obtain ⟨cc7, -⟩ := q7
  have q0 : w7.cell? ⟨w.heap.size + 1, 0, none⟩ = some (.int .i64 ps) := by rw [cc7 _ _ (by simp)]; simp
  have q1 : w7.cell? ⟨w.heap.size + 1, 1, none⟩ = some (.int .i64 po) := by rw [cc7 _ _ (by simp)]; simp
  have q2 : w7.cell? ⟨w.heap.size + 1, 2, none⟩ = some (.int .i64 pl) := by rw [cc7 _ _ (by simp)]; simp
  have q3 : w7.cell? ⟨w.heap.size + 1, 3, none⟩ = some (.int .i64 pn) := by rw [cc7 _ _ (by simp)]; simp
  have q4 : w7.cell? ⟨w.heap.size + 1, 4, none⟩ = some (.bool xr) := by rw [cc7 _ _ (by simp)]; simp
  have q5 : w7.cell? ⟨w.heap.size + 1, 5, none⟩ = some (.bool l.has) := by rw [cc7 _ _ (by simp)]; simp
  have q6 : w7.cell? ⟨w.heap.size + 1, 6, none⟩ = some (.bool r.has) := by rw [cc7 _ _ (by simp)]; simp
  have q7 : w7.cell? ⟨w.heap.size + 1, 7, none⟩ = some (.int .i64 (((Tr.mk (some (xr, l, ⟨ps, po, pl, pn⟩, r)))).size : Nat)) := by rw [cc7 _ _ (by simp)]; simp
  have q8 : w7.cell? ⟨w.heap.size + 1, 8, none⟩ = some (.int .i64 xb) := by rw [cc7 _ _ (by simp)]; simp
  have q9 : w7.cell? ⟨w.heap.size + 1, 9, none⟩ = some (.int .i64 xn) := by rw [cc7 _ _ (by simp)]; simp
  obtain ⟨b', la', ra', eb, hn7, -, -⟩ := id hat7
  have eb' : b' = b7 := by simpa using eb.symm
  subst eb'
  obtain ⟨d0, d1, d2, d3, d4, d5, d6, d7, d8, d9, d10, d11⟩ := s12 hn7
  have HA7 : Hid (At w7 ((Tr.mk (some (xr, l, ⟨ps, po, pl, pn⟩, r)))) (some ⟨b', 0, none⟩)) := hat7
  have HRD : Hid (Rdr w7 (.slice ao8 n8 c8) L2 ∧ Below w.heap.size w w7) := ⟨hrd8.keep hb7, bA2 L7⟩
  clear eb hn7 hat7 hat8 hat9 hrd8 hrd9 hb7 hb8 hb9 L7 L8 L9 cc7 cc8 cc9 ff8 ff9 K2
  go_quiet (first | (go_at_call 102; exact Calls.quiet_of (balanced_drewN xr l ps po pl pn r _ _ _ HA7.out)))
  go_wp2
  go_ret3
  exact ⟨⟨_, _, _, _, rfl, HA7.out.keep (below_drewN' _ _), HRD.out.1.keep (below_drewN' _ _)⟩, HRD.out.2.trans ((below_drewN' _ _).mono HRD.out.2.size)⟩
end Go.Proofs.Ytpifjghhlcjedaa

namespace Go.Proofs.Ytpifjghhlcjedaa
open Go.RowKit

set_option maxRecDepth 100000 in
set_option maxHeartbeats 4000000 in
theorem readNode_ne3 (b off n c : Nat) (h : Nat) (A : Addr) (ps po pl pn : Int) (xr : Bool) (l r : Tr) (L1 L2 : List Rw) (xn : Int) (w : World) (hn : ((n : Int) == 0) = false) (hnp : (0 : Int) < (n : Int)) (hn1 : (1 : Int) ≤ (n : Int)) (_hnc : (n : Int) ≤ (c : Int)) (_h1c : (1 : Int) ≤ (c : Int)) (hw : IntKind.i64.wrap (h : Int) = (h : Int)) (hw' : wrap64 (h : Int) = (h : Int)) (hf : fitB pl pn = true)
    (hA : (if c = 1 then some (⟨b, off, none⟩ : Addr) else some ⟨b, off + 10, none⟩) = some A)
    (r0 : w.cell? ⟨b, off, none⟩ = some (.int .i64 ps)) (r1 : w.cell? ⟨b, off + 1, none⟩ = some (.int .i64 po)) (r2 : w.cell? ⟨b, off + 2, none⟩ = some (.int .i64 pl)) (r3 : w.cell? ⟨b, off + 3, none⟩ = some (.int .i64 pn)) (r4 : w.cell? ⟨b, off + 4, none⟩ = some (.bool xr)) (r5 : w.cell? ⟨b, off + 5, none⟩ = some (.bool l.has)) (r6 : w.cell? ⟨b, off + 6, none⟩ = some (.bool r.has)) (r7 : w.cell? ⟨b, off + 7, none⟩ = some (.int .i64 (((Tr.mk (some (xr, l, ⟨ps, po, pl, pn⟩, r)))).size : Nat))) (r8 : w.cell? ⟨b, off + 8, none⟩ = some (.int .i64 ((Tr.mk (some (xr, l, ⟨ps, po, pl, pn⟩, r)))).byt)) (r9 : w.cell? ⟨b, off + 9, none⟩ = some (.int .i64 xn))
    (hlt : b < w.heap.size) (hfi : Hid ((Tr.mk (some (xr, l, ⟨ps, po, pl, pn⟩, r)))).fine) (hne : (((Tr.mk (some (xr, l, ⟨ps, po, pl, pn⟩, r)))).lin = xn) = False)
    (K1 : Hid (∀ w', Below w.heap.size w w' → Calls Try.prog 101 #[.bool l.has, .slice (some A) (n - 1) (c - 1), .int .i64 (h : Int)] w' fun e w'' => RdGave w' (some (l, L1)) e w''))
    (K2 : Hid (∀ w' ao n c, Rdr w' (.slice ao n c) L1 → Calls Try.prog 101 #[.bool r.has, .slice ao n c, .int .i64 (h : Int)] w' fun e w'' => RdGave w' (some (r, L2)) e w''))
    :
    Calls Try.prog 74 #[.slice (some ⟨b, off, none⟩) n c, .int .i64 ((h + 1 : Nat) : Int)] w fun e w' => (∃ a ao n c, e = .returned (.tuple #[.pointer a, .slice ao n c, .bool false]) ∧ At w' ((Tr.mk (some (xr, l, ⟨ps, po, pl, pn⟩, r)))) a ∧ Rdr w' (.slice ao n c) L2) ∧ Below w.heap.size w w' := by
  go_enter Try.func74, Try.ntmps74
  go_wp2_with (go_at_call 53; refine (fit_any ps po pl pn _).mono ?_; rw [hf]; rintro e w' ⟨rfl, rfl⟩)
  go_region_held3 (fun w' => w'.cell? ⟨w.heap.size + 1, 5, none⟩ = some (.bool l.has)) (first | assumption | simp [*, go_sem])
    (first | (go_at_call 101; refine (K1.out _ ((bAlloc (bAlloc (Below.refl w.heap.size w) _) _).drew)).mono ?_; rintro e w9 ⟨⟨la, ao9, n9, c9, rfl, hat9, hrd9⟩, hb9⟩; have L9 := bD hb9; obtain ⟨cc9, ff9⟩ := bcell L9; have k9 : w9.cell? ⟨w.heap.size + 1, 5, none⟩ = some (.bool l.has) := by rw [cc9 _ _ (by simp)]; simp))
  clear k9 r0 r1 r2 r3 r4 r5 r6 r7 r8 r9 hA K1
  go_wp2_with (first | (go_at_call 101; refine (K2.out _ _ _ _ hrd9).mono ?_; rintro e w8 ⟨⟨ra, ao8, n8, c8, rfl, hat8, hrd8⟩, hb8⟩; have L8 := L9.trans (hb8.mono L9.size); obtain ⟨cc8, ff8⟩ := bcell L8)
                     | (go_at_call 91; refine (make_any xr l ps po pl pn r la ra _ hfi (hat9.keep hb8) hat8).mono ?_; rintro e w7 ⟨b7, rfl, hat7, hb7⟩; have L7 := L8.trans (hb7.mono L8.size); have q7 := bcell L7))
  obtain ⟨cc7, -⟩ := q7
  have q0 : w7.cell? ⟨w.heap.size + 1, 0, none⟩ = some (.int .i64 ps) := by rw [cc7 _ _ (by simp)]; simp
  have q1 : w7.cell? ⟨w.heap.size + 1, 1, none⟩ = some (.int .i64 po) := by rw [cc7 _ _ (by simp)]; simp
  have q2 : w7.cell? ⟨w.heap.size + 1, 2, none⟩ = some (.int .i64 pl) := by rw [cc7 _ _ (by simp)]; simp
  have q3 : w7.cell? ⟨w.heap.size + 1, 3, none⟩ = some (.int .i64 pn) := by rw [cc7 _ _ (by simp)]; simp
  have q4 : w7.cell? ⟨w.heap.size + 1, 4, none⟩ = some (.bool xr) := by rw [cc7 _ _ (by simp)]; simp
  have q5 : w7.cell? ⟨w.heap.size + 1, 5, none⟩ = some (.bool l.has) := by rw [cc7 _ _ (by simp)]; simp
  have q6 : w7.cell? ⟨w.heap.size + 1, 6, none⟩ = some (.bool r.has) := by rw [cc7 _ _ (by simp)]; simp
  have q7 : w7.cell? ⟨w.heap.size + 1, 7, none⟩ = some (.int .i64 (((Tr.mk (some (xr, l, ⟨ps, po, pl, pn⟩, r)))).size : Nat)) := by rw [cc7 _ _ (by simp)]; simp
  have q8 : w7.cell? ⟨w.heap.size + 1, 8, none⟩ = some (.int .i64 ((Tr.mk (some (xr, l, ⟨ps, po, pl, pn⟩, r)))).byt) := by rw [cc7 _ _ (by simp)]; simp
  have q9 : w7.cell? ⟨w.heap.size + 1, 9, none⟩ = some (.int .i64 xn) := by rw [cc7 _ _ (by simp)]; simp
  obtain ⟨b', la', ra', eb, hn7, -, -⟩ := id hat7
  have eb' : b' = b7 := by simpa using eb.symm
  subst eb'
  obtain ⟨d0, d1, d2, d3, d4, d5, d6, d7, d8, d9, d10, d11⟩ := s12 hn7
  have HA7 : Hid (At w7 ((Tr.mk (some (xr, l, ⟨ps, po, pl, pn⟩, r)))) (some ⟨b', 0, none⟩)) := hat7
  have HRD : Hid (Rdr w7 (.slice ao8 n8 c8) L2 ∧ Below w.heap.size w w7) := ⟨hrd8.keep hb7, bA2 L7⟩
  clear eb hn7 hat7 hat8 hat9 hrd8 hrd9 hb7 hb8 hb9 L7 L8 L9 cc7 cc8 cc9 ff8 ff9 K2
  go_quiet (first | (go_at_call 102; exact Calls.quiet_of (balanced_drewN xr l ps po pl pn r _ _ _ HA7.out)))
  go_wp2
  go_ret3
  exact ⟨⟨_, _, _, _, rfl, HA7.out.keep (below_drewN' _ _), HRD.out.1.keep (below_drewN' _ _)⟩, HRD.out.2.trans ((below_drewN' _ _).mono HRD.out.2.size)⟩
end Go.Proofs.Ytpifjghhlcjedaa

namespace Go.Proofs.Ytpifjghhlcjedaa
open Go.RowKit

set_option maxHeartbeats 400000 in
theorem readKid_no (ao : Option Addr) (n c : Nat) (h : Int) (L : List Rw) (w : World) (hr : Hid (Rdr w (.slice ao n c) L)) : Calls Try.prog 101 #[.bool false, .slice ao n c, .int .i64 h] w fun e w' => RdGave w (some ((Tr.mk none), L)) e w' := by
  go_enter Try.func101, Try.ntmps101
  go_wp2
  go_ret3
  exact ⟨⟨_, _, _, _, rfl, rfl, hr.out⟩, Below.refl _ _⟩
set_option maxHeartbeats 400000 in
theorem readKid_none (ao : Option Addr) (n c : Nat) (h : Int) (w : World) (K : Hid (Calls Try.prog 74 #[.slice ao n c, .int .i64 h] w fun e w' => RdGave w none e w')) : Calls Try.prog 101 #[.bool true, .slice ao n c, .int .i64 h] w fun e w' => RdGave w none e w' := by
  go_enter Try.func101, Try.ntmps101
  go_wp2_with (go_at_call 74; refine K.out.mono ?_; rintro e w9 ⟨⟨v1, v2, rfl⟩, hb9⟩)
  go_ret3
  exact ⟨⟨_, _, rfl⟩, hb9⟩
set_option maxHeartbeats 400000 in
theorem readKid_some (ao : Option Addr) (n c : Nat) (h : Int) (t : Tr) (L : List Rw) (w : World) (K : Hid (Calls Try.prog 74 #[.slice ao n c, .int .i64 h] w fun e w' => RdGave w (some (t, L)) e w')) : Calls Try.prog 101 #[.bool true, .slice ao n c, .int .i64 h] w fun e w' => RdGave w (some (t, L)) e w' := by
  go_enter Try.func101, Try.ntmps101
  go_wp2_with (go_at_call 74; refine K.out.mono ?_; rintro e w9 ⟨⟨a9, ao9, n9, c9, rfl, hat9, hrd9⟩, hb9⟩)
  go_ret3
  exact ⟨⟨_, _, _, _, rfl, hat9, hrd9⟩, hb9⟩

theorem readKid_any (b : Bool) (ao : Option Addr) (n c h : Nat) (L : List Rw) (w : World) (hr : Rdr w (.slice ao n c) L) (K : ∀ w, Rdr w (.slice ao n c) L → Calls Try.prog 74 #[.slice ao n c, .int .i64 (h : Int)] w fun e w' => RdGave w (readN h L) e w') :
    Calls Try.prog 101 #[.bool b, .slice ao n c, .int .i64 (h : Int)] w fun e w' => RdGave w (readK h b L) e w' := by
  cases b with
  | false => rw [show readK h false L = some ((Tr.mk none), L) from by unfold readK; rfl]; exact readKid_no ao n c h L w hr
  | true =>
    have k := K w hr
    rw [show readK h true L = readN h L from by unfold readK; rfl]
    cases e : readN h L with
    | none => rw [e] at k; exact readKid_none ao n c h w k
    | some p => obtain ⟨t, L'⟩ := p; rw [e] at k; exact readKid_some ao n c h t L' w k

theorem i64_in2 {x : Int} (h1 : -9223372036854775808 ≤ x) (h2 : x ≤ 9223372036854775807) : IntKind.i64.wrap x = x := by rw [IntKind.wrap_i64]; omega
theorem readK_has {h : Nat} {b : Bool} {L : List Rw} {t : Tr} {rest : List Rw} (e : readK h b L = some (t, rest)) : t.has = b ∧ Reads L t rest := by
  unfold readK at e
  split at e
  · rename_i hb
    refine ⟨?_, readN_ok h L t rest e⟩
    cases h with
    | zero => rw [readN_zero] at e; cases e
    | succ h =>
      cases L with
      | nil => rw [readN_nil] at e; cases e
      | cons x L =>
        rw [readN_succ] at e
        split at e
        · split at e
          · cases e
          · split at e
            · cases e
            · unfold closeN at e
              split at e
              · simp at e; obtain ⟨rfl, rfl⟩ := e; rw [hb]; rfl
              · cases e
        · cases e
  · simp at e; obtain ⟨rfl, rfl⟩ := e; refine ⟨by simp_all [Tr.has], by simp [rowsT], trivial, trivial⟩

theorem readNode_any : ∀ (h : Nat) (L : List Rw) (ao : Option Addr) (n c : Nat) (w : World), h ≤ 1000 → L.length ≤ 1048576 → Rdr w (.slice ao n c) L → Calls Try.prog 74 #[.slice ao n c, .int .i64 (h : Int)] w fun e w' => RdGave w (readN h L) e w'
  | h, [], ao, n, c, w, _, _, hr => by
    obtain ⟨ao', n', c', e1, e2, e3, e4⟩ := hr
    obtain ⟨rfl, rfl, rfl⟩ : ao = ao' ∧ n = n' ∧ c = c' := by simpa using e1
    have : n = 0 := e2
    subst this
    rw [show readN h [] = none from readN_nil h]
    exact readNode_nil ao c h w
  | 0, x :: L, ao, n, c, w, _, _, hr => by
    obtain ⟨ao', n', c', e1, e2, e3, e4⟩ := hr
    obtain ⟨rfl, rfl, rfl⟩ : ao = ao' ∧ n = n' ∧ c = c' := by simpa using e1
    rw [show readN 0 (x :: L) = none from readN_zero _]
    exact readNode_zero ao n c w (by rw [beq_eq_false_iff_ne]; simp at e2; omega)
  | h + 1, ⟨⟨ps, po, pl, pn⟩, xr, xl, xg, xc, xb, xn⟩ :: L, ao, n, c, w, hh, hz, hr => by
    have ih := readNode_any h
    obtain ⟨ao', n', c', e1, e2, e3, e4⟩ := hr
    obtain ⟨rfl, rfl, rfl⟩ : ao = ao' ∧ n = n' ∧ c = c' := by simpa using e1
    rcases e4 with e4 | ⟨b, off, rfl, hR⟩
    · cases e4
    obtain ⟨r0, r1, r2, r3, r4, r5, r6, r7, r8, r9⟩ := hR 0 _ rfl
    simp only [Nat.zero_mul, Nat.add_zero] at r0 r1 r2 r3 r4 r5 r6 r7 r8 r9
    have hlt := cell_lt r0
    simp only [List.length_cons] at e2 hz
    have hn : ((n : Int) == 0) = false := by rw [beq_eq_false_iff_ne]; omega
    have hnp : (0 : Int) < (n : Int) := by omega
    have hn1 : (1 : Int) ≤ (n : Int) := by omega
    have hnc : (n : Int) ≤ (c : Int) := by omega
    have h1c : (1 : Int) ≤ (c : Int) := by omega
    have hw : IntKind.i64.wrap (h : Int) = (h : Int) := i64_in2 (by omega) (by omega)
    have hw' : wrap64 (h : Int) = (h : Int) := w64 (by omega) (by omega)
    cases hf : fitB pl pn with
    | false =>
      rw [show readN (h + 1) (⟨⟨ps, po, pl, pn⟩, xr, xl, xg, xc, xb, xn⟩ :: L) = none from by rw [readN_succ]; simp [hf]]
      exact readNode_unfit b off n c h ps po pl pn w hn hnp hf r0 r1 r2 r3
    | true =>
      obtain ⟨A, hA, hrest⟩ : ∃ A : Addr, (if c = 1 then some (⟨b, off, none⟩ : Addr) else some ⟨b, off + 10, none⟩) = some A ∧ Rdr w (.slice (some A) (n - 1) (c - 1)) L := by
        by_cases hc : c = 1
        · refine ⟨⟨b, off, none⟩, by rw [if_pos hc], _, _, _, rfl, by omega, by omega, .inl (List.eq_nil_of_length_eq_zero (by omega))⟩
        · refine ⟨⟨b, off + 10, none⟩, by rw [if_neg hc], _, _, _, rfl, by omega, by omega, .inr ⟨b, off + 10, rfl, ?_⟩⟩
          have := hR.drop 1
          simpa using this
      have K1 : ∀ w', Below w.heap.size w w' → Calls Try.prog 101 #[.bool xl, .slice (some A) (n - 1) (c - 1), .int .i64 (h : Int)] w' fun e w'' => RdGave w' (readK h xl L) e w'' := fun w' hb =>
        readKid_any xl _ _ _ h L w' (hrest.keep hb) (fun w2 hr2 => ih L _ _ _ w2 (by omega) (by omega) hr2)
      rw [readN_succ]
      simp only [hf, if_true]
      cases e1 : readK h xl L with
      | none =>
        rw [e1] at K1
        exact readNode_left b off n c h A ps po pl pn xr xl xg xc xb xn w hn hnp hn1 hnc h1c hw hw' hf hA r0 r1 r2 r3 r4 r5 r6 r7 r8 r9 hlt K1
      | some p =>
        obtain ⟨l, L1⟩ := p
        rw [e1] at K1
        obtain ⟨hl1, hl2, hl3, hl4⟩ := readK_has e1
        have z1 : L.length = l.size + L1.length := by rw [hl2, List.length_append, rowsT_length]
        have K2 : ∀ w' ao n c, Rdr w' (.slice ao n c) L1 → Calls Try.prog 101 #[.bool xg, .slice ao n c, .int .i64 (h : Int)] w' fun e w'' => RdGave w' (readK h xg L1) e w'' := fun w' ao n c hr' =>
          readKid_any xg _ _ _ h L1 w' hr' (fun w2 hr2 => ih L1 _ _ _ w2 (by omega) (by omega) hr2)
        simp only
        cases e2' : readK h xg L1 with
        | none =>
          rw [e2'] at K2
          exact readNode_right b off n c h A ps po pl pn xr xl xg xc xb xn l L1 w hn hnp hn1 hnc h1c hw hw' hf hA r0 r1 r2 r3 r4 r5 r6 r7 r8 r9 hlt K1 K2
        | some p =>
          obtain ⟨r, L2⟩ := p
          rw [e2'] at K2
          obtain ⟨hr1, hr2, hr3, hr4⟩ := readK_has e2'
          have z2 : L1.length = r.size + L2.length := by rw [hr2, List.length_append, rowsT_length]
          subst hl1 hr1
          have hfi : ((Tr.mk (some (xr, l, ⟨ps, po, pl, pn⟩, r)))).fine := ⟨⟨hl4, (fitB_iff ps po pl pn).1 hf, hr4⟩, by simp only [Tr.size]; omega⟩
          simp only
          unfold closeN
          by_cases c1 : (((Tr.mk (some (xr, l, ⟨ps, po, pl, pn⟩, r)))).size : Int) = xc
          · subst c1
            by_cases c2 : ((Tr.mk (some (xr, l, ⟨ps, po, pl, pn⟩, r)))).byt = xb
            · subst c2
              by_cases c3 : ((Tr.mk (some (xr, l, ⟨ps, po, pl, pn⟩, r)))).lin = xn
              · subst c3
                have k := readNode_eq b off n c h A ps po pl pn xr l r L1 L2 w hn hnp hn1 hnc h1c hw hw' hf hA r0 r1 r2 r3 r4 r5 r6 r7 r8 r9 hlt hfi K1 K2
                cases eb : balB xr l r with
                | true =>
                  rw [if_pos ⟨eqRw_iff.2 rfl, rfl⟩]
                  rw [eb] at k
                  exact k
                | false =>
                  rw [if_neg (by simp)]
                  rw [eb] at k
                  refine k.mono ?_
                  rintro e w' ⟨⟨a, ao, n, c, rfl, -⟩, hb⟩
                  exact ⟨⟨_, _, rfl⟩, hb⟩
              · rw [if_neg (by intro hh; apply c3; have := congrArg Rw.lin (eqRw_iff.1 hh.1); exact this)]
                refine (readNode_ne3 b off n c h A ps po pl pn xr l r L1 L2 xn w hn hnp hn1 hnc h1c hw hw' hf hA r0 r1 r2 r3 r4 r5 r6 r7 r8 r9 hlt hfi (by simpa using c3) K1 K2).mono ?_
                rintro e w' ⟨⟨a, ao, n, c, rfl, -⟩, hb⟩
                exact ⟨⟨_, _, rfl⟩, hb⟩
            · rw [if_neg (by intro hh; apply c2; have := congrArg Rw.byt (eqRw_iff.1 hh.1); exact this)]
              refine (readNode_ne2 b off n c h A ps po pl pn xr l r L1 L2 xb xn w hn hnp hn1 hnc h1c hw hw' hf hA r0 r1 r2 r3 r4 r5 r6 r7 r8 r9 hlt hfi (by simpa using c2) K1 K2).mono ?_
              rintro e w' ⟨⟨a, ao, n, c, rfl, -⟩, hb⟩
              exact ⟨⟨_, _, rfl⟩, hb⟩
          · rw [if_neg (by intro hh; apply c1; have := congrArg Rw.cnt (eqRw_iff.1 hh.1); exact this)]
            refine (readNode_ne1 b off n c h A ps po pl pn xr l r L1 L2 xc xb xn w hn hnp hn1 hnc h1c hw hw' hf hA r0 r1 r2 r3 r4 r5 r6 r7 r8 r9 hlt hfi (by simpa using c1) K1 K2).mono ?_
            rintro e w' ⟨⟨a, ao, n, c, rfl, -⟩, hb⟩
            exact ⟨⟨_, _, rfl⟩, hb⟩

theorem rcells_at {L : List Rw} {j : Nat} {p : Rw} (h : L[j]? = some p) (i : Nat) (hi : i < 10) : (rcells L)[j * 10 + i]? = p.cs[i]? := by
  induction L generalizing j with
  | nil => simp at h
  | cons q L ih =>
    rw [rcells_cons]
    cases j with
    | zero =>
      simp at h; subst h
      rw [Nat.zero_mul, Nat.zero_add, List.getElem?_append_left (by simp [Rw.cs]; omega)]
    | succ j =>
      rw [List.getElem?_cons_succ] at h
      rw [List.getElem?_append_right (by simp [Rw.cs]; omega)]
      rw [← ih h]
      congr 1
      simp [Rw.cs]; omega
theorem own_rowR {w : World} {base n cap g : Nat} {L : List Rw} (h : w.ownsRow base 53 10 (.slice (some ⟨g, 0, none⟩) n cap) n (rcells L)) : RowR w g 0 L := by
  have hl : n = L.length := by have := h.1; rw [rcells_length] at this; omega
  intro j p hj
  have hlt := (List.getElem?_eq_some_iff.1 hj).1
  have c := fun i (hi : i < 10) => (h.cellAt (j * 10 + i) (by omega)).trans (rcells_at hj i hi)
  rw [Nat.zero_add]
  exact ⟨by simpa [Rw.cs] using c 0 (by omega), by simpa [Rw.cs] using c 1 (by omega), by simpa [Rw.cs] using c 2 (by omega), by simpa [Rw.cs] using c 3 (by omega), by simpa [Rw.cs] using c 4 (by omega), by simpa [Rw.cs] using c 5 (by omega), by simpa [Rw.cs] using c 6 (by omega), by simpa [Rw.cs] using c 7 (by omega), by simpa [Rw.cs] using c 8 (by omega), by simpa [Rw.cs] using c 9 (by omega)⟩
theorem own_rdr {w : World} {base n : Nat} {v : Value} {L : List Rw} (h : w.ownsRow base 53 10 v n (rcells L)) : Rdr w v L := by
  have hl : n = L.length := by have := h.1; rw [rcells_length] at this; omega
  rcases h.2 with ⟨rfl, rfl⟩ | ⟨g, cap, cur, rfl, hb, hg, h1, h2, h3, h4⟩
  · exact ⟨_, _, _, rfl, hl, Nat.le_refl _, .inl (List.eq_nil_of_length_eq_zero hl.symm)⟩
  · exact ⟨_, _, _, rfl, hl, h1, .inr ⟨g, 0, rfl, own_rowR h⟩⟩

/-! ### Check -/
set_option maxHeartbeats 400000 in
theorem Check_nil (ao : Option Addr) (c : Nat) (w : World) : Calls Try.prog 37 #[.slice ao 0 c] w fun e w' => e = .returned (.int .i64 0) ∧ w' = w := by
  go_enter Try.func37, Try.ntmps37
  go_wp2
  go_ret
  exact ⟨rfl, rfl⟩
set_option maxHeartbeats 400000 in
theorem Check_none (ao : Option Addr) (n c : Nat) (w : World) (hn : ((n : Int) == 0) = false) (hz : n ≤ 1048576) (K : Hid (Calls Try.prog 74 #[.slice ao n c, .int .i64 ((2 * Lib.bitLen n : Nat) : Int)] w fun e w' => RdGave w none e w')) :
    Calls Try.prog 37 #[.slice ao n c] w fun e w' => e = .returned (.int .i64 21) ∧ Below w.heap.size w w' := by
  go_enter Try.func37, Try.ntmps37
  go_wp2_with (first | (go_at_call 75; refine (highest_any n _ hz).mono ?_; rintro e w' ⟨rfl, rfl⟩)
                     | (go_at_call 74; refine K.out.mono ?_; rintro e w9 ⟨⟨v1, v2, rfl⟩, hb9⟩))
  go_ret
  exact ⟨rfl, hb9⟩
set_option maxHeartbeats 400000 in
theorem Check_more (ao : Option Addr) (n c : Nat) (t : Tr) (x : Rw) (L : List Rw) (w : World) (hn : ((n : Int) == 0) = false) (hz : n ≤ 1048576) (K : Hid (Calls Try.prog 74 #[.slice ao n c, .int .i64 ((2 * Lib.bitLen n : Nat) : Int)] w fun e w' => RdGave w (some (t, x :: L)) e w')) :
    Calls Try.prog 37 #[.slice ao n c] w fun e w' => e = .returned (.int .i64 21) ∧ Below w.heap.size w w' := by
  go_enter Try.func37, Try.ntmps37
  go_wp2_with (first | (go_at_call 75; refine (highest_any n _ hz).mono ?_; rintro e w' ⟨rfl, rfl⟩)
                     | (go_at_call 74; refine K.out.mono ?_; rintro e w9 ⟨⟨a9, ao9, n9, c9, rfl, hat9, hrd9⟩, hb9⟩; have hl9 : (0 : Int) < (n9 : Int) := by (obtain ⟨_, _, _, q1, q2, -⟩ := hrd9; simp at q1 q2; omega)))
  go_ret
  exact ⟨rfl, hb9⟩
set_option maxHeartbeats 400000 in
theorem Check_all (ao : Option Addr) (n c : Nat) (t : Tr) (w : World) (hn : ((n : Int) == 0) = false) (hz : n ≤ 1048576) (r : Bool) (ht : t.red = r) (K : Hid (Calls Try.prog 74 #[.slice ao n c, .int .i64 ((2 * Lib.bitLen n : Nat) : Int)] w fun e w' => RdGave w (some (t, [])) e w')) :
    Calls Try.prog 37 #[.slice ao n c] w fun e w' => e = .returned (.int .i64 (if r = true then 21 else 0)) ∧ Below w.heap.size w w' := by
  cases r with
  | true =>
    go_enter Try.func37, Try.ntmps37
    go_wp2_with (first | (go_at_call 75; refine (highest_any n _ hz).mono ?_; rintro e w' ⟨rfl, rfl⟩)
                       | (go_at_call 74; refine K.out.mono ?_; rintro e w9 ⟨⟨a9, ao9, n9, c9, rfl, hat9, hrd9⟩, hb9⟩; have hl9 : n9 = 0 := by (obtain ⟨_, _, _, q1, q2, -⟩ := hrd9; simp at q1 q2; omega))
                       | (go_at_call 76; refine (isRed_eq t _ true _ ht hat9).mono ?_; rintro e w' ⟨rfl, rfl⟩))
    go_ret
    exact ⟨rfl, hb9⟩
  | false =>
    go_enter Try.func37, Try.ntmps37
    go_wp2_with (first | (go_at_call 75; refine (highest_any n _ hz).mono ?_; rintro e w' ⟨rfl, rfl⟩)
                       | (go_at_call 74; refine K.out.mono ?_; rintro e w9 ⟨⟨a9, ao9, n9, c9, rfl, hat9, hrd9⟩, hb9⟩; have hl9 : n9 = 0 := by (obtain ⟨_, _, _, q1, q2, -⟩ := hrd9; simp at q1 q2; omega))
                       | (go_at_call 76; refine (isRed_eq t _ false _ ht hat9).mono ?_; rintro e w' ⟨rfl, rfl⟩))
    go_ret
    exact ⟨rfl, hb9⟩

theorem Check_any (L : List Rw) (v : Value) (w : World) (hz : L.length ≤ 1048576) (hr : Rdr w v L) :
    Calls Try.prog 37 #[v] w fun e w' => e = .returned (.int .i64 (if checkB L = true then 0 else 21)) ∧ Below w.heap.size w w' := by
  obtain ⟨ao, n, c, rfl, e2, e3, e4⟩ := id hr
  cases L with
  | nil =>
    have : n = 0 := e2
    subst this
    refine (Check_nil ao c w).mono ?_
    rintro e w' ⟨rfl, rfl⟩
    exact ⟨rfl, Below.refl _ _⟩
  | cons x L =>
    have hn : ((n : Int) == 0) = false := by rw [beq_eq_false_iff_ne]; simp at e2; omega
    have hb := bitLen_small n (by omega)
    have k := readNode_any (2 * Lib.bitLen n) (x :: L) ao n c w (by omega) hz hr
    have ec : checkB (x :: L) = match readN (2 * Lib.bitLen n) (x :: L) with | some (t, []) => !t.red | _ => false := by rw [e2]; rfl
    rw [ec]
    cases e : readN (2 * Lib.bitLen n) (x :: L) with
    | none => rw [e] at k; exact Check_none ao n c w hn (by omega) k
    | some p =>
      obtain ⟨t, rest⟩ := p
      rw [e] at k
      cases rest with
      | cons y M => exact Check_more ao n c t y M w hn (by omega) k
      | nil =>
        have := Check_all ao n c t w hn (by omega) t.red rfl k
        refine this.mono ?_
        rintro e w' ⟨rfl, hb⟩
        refine ⟨?_, hb⟩
        simp only
        congr 2
        by_cases ht : t.red = true
        · rw [if_pos ht, if_neg (by simp [ht])]
        · rw [if_neg ht, if_pos (by simpa using ht)]
end Go.Proofs.Ytpifjghhlcjedaa

namespace Go.Proofs.Ytpifjghhlcjedaa.Rk
open Go.RowKit

theorem bT {a b c : World} (h : Below a.heap.size a b) (k : Below b.heap.size b c) : Below a.heap.size a c := h.trans (k.mono h.size)
theorem own_keep {w w' : World} {base e size n : Nat} {v : Value} {xs : List Value} (h : w.ownsRow base e size v n xs) (hb : Below w.heap.size w w') : w'.ownsRow base e size v n xs := by
  refine ⟨h.1, ?_⟩
  rcases h.2 with h0 | ⟨g, cap, cur, rfl, hb', hg, rest⟩
  · exact .inl h0
  · exact .inr ⟨g, cap, cur, rfl, hb', by rw [hb.block g (Array.getElem?_eq_some_iff.1 hg).1]; exact hg, rest⟩
theorem own_lower {w : World} {base base' e size n : Nat} {v : Value} {xs : List Value} (h : w.ownsRow base e size v n xs) (hb : base' ≤ base) : w.ownsRow base' e size v n xs := by
  refine ⟨h.1, ?_⟩
  rcases h.2 with h0 | ⟨g, cap, cur, rfl, hb', rest⟩
  · exact .inl h0
  · exact .inr ⟨g, cap, cur, rfl, by omega, rest⟩
theorem bAlloc {w W : World} (h : Below w.heap.size w W) (o : Obj) : Below w.heap.size w (W.alloc o) := h.alloc h.size o

/-- one cell in a block of its own -/
def Box (W : World) (b : Nat) (v : Value) (t : Nat) : Prop := W.heap[b]? = some (.cells #[v] t (0, 0))
theorem Box.keep {W W' : World} {b t : Nat} {v : Value} (h : Box W b v t) (hb : Below W.heap.size W W') : Box W' b v t :=
  (hb.block b (Array.getElem?_eq_some_iff.1 h).1).trans h
theorem Box.new (W : World) (v : Value) (t : Nat) : Box (W.alloc (.cells #[v] t)) W.heap.size v t := heap_alloc_new W _
theorem Box.lt {W : World} {b t : Nat} {v : Value} (h : Box W b v t) : b < W.heap.size := (Array.getElem?_eq_some_iff.1 h).1
theorem Box.cell {W : World} {b t : Nat} {v : Value} (h : Box W b v t) : W.cell? ⟨b, 0, none⟩ = some v ∧ W.frozen? ⟨b, 0, none⟩ = false := by
  unfold Box at h
  simp [World.cell?, World.frozen?, h]
/-- a row of another type is written or grown -/
theorem Box.grown {W W' : World} {b t base e size n : Nat} {v u : Value} {xs : List Value} (h : Box W b v t) (hr : W.ownsRow base e size u n xs) (he : e ≠ t) (hg : W.grownBy W' u.ownBlock) : Box W' b v t := by
  refine (hg.block b h.lt ?_).trans h
  intro e1
  rcases hr.2 with ⟨rfl, _⟩ | ⟨g, cap, cur, rfl, _, hgg, _⟩
  · simp [Value.ownBlock] at e1
  · simp [Value.ownBlock] at e1
    subst e1
    unfold Box at h
    rw [hgg] at h
    simp at h
    exact he h.2

/-- a and b lie in no block together -/
def Far (a b : Value) : Prop := ∀ g, a.ownBlock = some g → b.ownBlock = some g → False
theorem Far.symm {a b : Value} (h : Far a b) : Far b a := fun g h1 h2 => h g h2 h1
theorem Far.ne {a b : Value} (h : Far a b) : a.ownBlock = none ∨ a.ownBlock ≠ b.ownBlock := by
  cases ha : a.ownBlock with
  | none => exact .inl rfl
  | some g => exact .inr fun e => h g ha e.symm
theorem Far.of {a b : Value} (h : a.ownBlock = none ∨ a.ownBlock ≠ b.ownBlock) : Far a b := fun g h1 h2 => by
  rcases h with h | h
  · rw [h] at h1; cases h1
  · exact h (h1.trans h2.symm)
theorem far_new {w w' : World} {base e s n e' s' n' : Nat} {x y : Value} {xs ys : List Value} (h : w.ownsRow base e s x n xs) (k : w'.ownsRow w.heap.size e' s' y n' ys) : Far x y := fun g h1 h2 => by
  have := (h.lt g h1).2
  have := (k.lt g h2).1
  omega
/-- rows of different types lie apart -/
theorem far_type {w : World} {base e s n base' e' s' n' : Nat} {x y : Value} {xs ys : List Value} (h : w.ownsRow base e s x n xs) (k : w.ownsRow base' e' s' y n' ys) (hne : e ≠ e') : Far x y := fun g h1 h2 => by
  rcases h.2 with ⟨rfl, _⟩ | ⟨g1, c1, u1, rfl, _, hg1, _⟩
  · simp [Value.ownBlock] at h1
  · rcases k.2 with ⟨rfl, _⟩ | ⟨g2, c2, u2, rfl, _, hg2, _⟩
    · simp [Value.ownBlock] at h2
    · simp [Value.ownBlock] at h1 h2
      subst h1 h2
      rw [hg1] at hg2
      simp at hg2
      exact hne hg2.2

structure Rr where
  t : Nat
  s : Nat
  v : Value
  n : Nat
  xs : List Value

structure Rrs (w W : World) (R : List Rr) : Prop where
  own : ∀ (i : Nat) (r : Rr), R[i]? = some r → W.ownsRow w.heap.size r.t r.s r.v r.n r.xs
  far : ∀ (i j : Nat) (p q : Rr), i ≠ j → R[i]? = some p → R[j]? = some q → Far p.v q.v
  bel : Below w.heap.size w W

theorem Rrs.keep {w W W' : World} {R : List Rr} (h : Rrs w W R) (hb : Below W.heap.size W W') : Rrs w W' R :=
  ⟨fun i r hi => own_keep (h.own i r hi) hb, h.far, bT h.bel hb⟩
theorem Rrs.alloc {w W : World} {R : List Rr} (h : Rrs w W R) (o : Obj) : Rrs w (W.alloc o) R := h.keep (bAlloc (Below.refl _ _) o)
theorem Rrs.drew {w W : World} {R : List Rr} (h : Rrs w W R) : Rrs w W.drew R := h.keep (Below.refl _ _).drew
theorem Rrs.size {w W : World} {R : List Rr} (h : Rrs w W R) : w.heap.size ≤ W.heap.size := h.bel.size
theorem Rrs.nil (w : World) : Rrs w w [] := ⟨fun i r hi => by simp at hi, fun i j p q _ hi => by simp at hi, Below.refl _ _⟩

theorem snoc_at {α : Type} {R : List α} {r x : α} {i : Nat} (h : (R ++ [r])[i]? = some x) : R[i]? = some x ∨ (i = R.length ∧ x = r) := by
  rw [List.getElem?_append] at h
  split at h
  · exact .inl h
  · rename_i hi
    right
    have := (List.getElem?_eq_some_iff.1 h).1
    simp at this
    have e : i = R.length := by omega
    subst e
    simp at h
    exact ⟨rfl, h.symm⟩
/-- one row more, in new memory -/
theorem Rrs.new {w W W' : World} {R : List Rr} {t s n : Nat} {v : Value} {xs : List Value} (h : Rrs w W R) (hb : Below W.heap.size W W') (ho : W'.ownsRow W.heap.size t s v n xs) : Rrs w W' (R ++ [⟨t, s, v, n, xs⟩]) := by
  have hk := h.keep hb
  refine ⟨fun i r hi => ?_, fun i j p q hij hi hj => ?_, hk.bel⟩
  · rcases snoc_at hi with hi | ⟨_, rfl⟩
    · exact hk.own i r hi
    · exact own_lower ho h.size
  · rcases snoc_at hi with hi | ⟨e1, rfl⟩
    · rcases snoc_at hj with hj | ⟨e2, rfl⟩
      · exact h.far i j p q hij hi hj
      · exact far_new (h.own i p hi) ho
    · rcases snoc_at hj with hj | ⟨e2, rfl⟩
      · exact (far_new (h.own j q hj) ho).symm
      · omega
/-- two rows more, in new memory, apart -/
theorem Rrs.new2 {w W W' : World} {R : List Rr} {t s n t2 s2 n2 : Nat} {v v2 : Value} {xs xs2 : List Value} (h : Rrs w W R) (hb : Below W.heap.size W W') (ho : W'.ownsRow W.heap.size t s v n xs) (ho2 : W'.ownsRow W.heap.size t2 s2 v2 n2 xs2) (hf : v.ownBlock = none ∨ v.ownBlock ≠ v2.ownBlock) : Rrs w W' (R ++ [⟨t, s, v, n, xs⟩] ++ [⟨t2, s2, v2, n2, xs2⟩]) := by
  have hk := h.new hb ho
  refine ⟨fun i r hi => ?_, fun i j p q hij hi hj => ?_, hk.bel⟩
  · rcases snoc_at hi with hi | ⟨_, rfl⟩
    · exact hk.own i r hi
    · exact own_lower ho2 h.size
  · have far : ∀ (i : Nat) (p : Rr), (R ++ [⟨t, s, v, n, xs⟩])[i]? = some p → Far p.v v2 := fun i p hi => by
      rcases snoc_at hi with hi | ⟨_, rfl⟩
      · exact far_new (h.own i p hi) ho2
      · exact Far.of hf
    rcases snoc_at hi with hi | ⟨e1, rfl⟩
    · rcases snoc_at hj with hj | ⟨e2, rfl⟩
      · exact hk.far i j p q hij hi hj
      · exact far i p hi
    · rcases snoc_at hj with hj | ⟨e2, rfl⟩
      · exact (far j q hj).symm
      · omega
theorem set_at {α : Type} {R : List α} {r x : α} {i j : Nat} (h : (R.set i r)[j]? = some x) : (j ≠ i ∧ R[j]? = some x) ∨ (j = i ∧ x = r) := by
  rw [List.getElem?_set] at h
  by_cases e : i = j
  · rw [if_pos e] at h
    split at h
    · injection h with h; exact .inr ⟨e.symm, h.symm⟩
    · cases h
  · rw [if_neg e] at h
    exact .inl ⟨Ne.symm e, h⟩
/-- one row is grown -/
theorem Rrs.grow {w W W' : World} {R : List Rr} {i : Nat} {r : Rr} {t s n : Nat} {v : Value} {xs : List Value} (h : Rrs w W R) (hi : R[i]? = some r) (hg : W.grownBy W' r.v.ownBlock) (ho : W'.ownsRow w.heap.size t s v n xs)
    (hf : v.ownBlock = r.v.ownBlock ∨ ∃ q, v.ownBlock = some q ∧ W.heap.size ≤ q) : Rrs w W' (R.set i ⟨t, s, v, n, xs⟩) := by
  have hfar : ∀ j q, j ≠ i → R[j]? = some q → Far q.v v := fun j q hj hq g h1 h2 => by
    rcases hf with e | ⟨k, e, hk⟩
    · exact h.far j i q r hj hq hi g h1 (by rw [← e]; exact h2)
    · have := ((h.own j q hq).lt g h1).2
      rw [e] at h2; simp at h2; omega
  refine ⟨fun j q hj => ?_, fun j k p q hjk hj hk => ?_, h.bel.grown hg h.size (fun k hk => ((h.own i r hi).lt k hk).1)⟩
  · rcases set_at hj with ⟨hne, hj⟩ | ⟨_, rfl⟩
    · exact (h.own j q hj).kept hg (h.far j i q r hne hj hi).ne
    · exact ho
  · rcases set_at hj with ⟨hne, hj⟩ | ⟨e1, rfl⟩
    · rcases set_at hk with ⟨hne2, hk⟩ | ⟨e2, rfl⟩
      · exact h.far j k p q hjk hj hk
      · exact hfar j p hne hj
    · rcases set_at hk with ⟨hne2, hk⟩ | ⟨e2, rfl⟩
      · exact (hfar k q hne2 hk).symm
      · omega
/-- one cell of a row is stored -/
theorem Rrs.store {w W : World} {R : List Rr} {i t s g n c : Nat} {xs : List Value} (h : Rrs w W R) (hi : R[i]? = some ⟨t, s, .slice (some ⟨g, 0, none⟩) n c, n, xs⟩) (j : Nat) (u : Value) :
    Rrs w (W.setCell ⟨g, j, none⟩ u) (R.set i ⟨t, s, .slice (some ⟨g, 0, none⟩) n c, n, xs.set j u⟩) := by
  obtain ⟨h1, h2⟩ := (h.own i _ hi).stored j u
  exact h.grow hi h2 h1 (.inl rfl)

/-- three cells of a row are stored -/
theorem Rrs.store3 {w W : World} {R : List Rr} {i t s g n c : Nat} {xs : List Value} (h : Rrs w W R) (hi : R[i]? = some ⟨t, s, .slice (some ⟨g, 0, none⟩) n c, n, xs⟩) (j : Nat) (a b d : Value) :
    Rrs w (((W.setCell ⟨g, j, none⟩ a).setCell ⟨g, j + 1, none⟩ b).setCell ⟨g, j + 2, none⟩ d) (R.set i ⟨t, s, .slice (some ⟨g, 0, none⟩) n c, n, ((xs.set j a).set (j + 1) b).set (j + 2) d⟩) := by
  have hlt := (List.getElem?_eq_some_iff.1 hi).1
  have h1 := h.store hi j a
  have h2 := h1.store (i := i) (by rw [List.getElem?_set_self hlt]) (j + 1) b
  have h3 := h2.store (i := i) (by rw [List.getElem?_set_self (by simpa using hlt)]) (j + 2) d
  rw [List.set_set, List.set_set] at h3
  exact h3

/-- l is x, grown in its own block, or lies elsewhere -/
def Link (x l : Value) : Prop := (∃ g n m c, x = .slice (some ⟨g, 0, none⟩) n c ∧ l = .slice (some ⟨g, 0, none⟩) m c ∧ n ≤ m) ∨ Far x l
theorem Link.self {W : World} {base e s n : Nat} {x : Value} {xs : List Value} (h : W.ownsRow base e s x n xs) : Link x x := by
  rcases h.2 with ⟨rfl, _⟩ | ⟨g, c, u, rfl, _⟩
  · exact .inr fun g h1 _ => by simp [Value.ownBlock] at h1
  · exact .inl ⟨g, n, n, c, rfl, rfl, Nat.le_refl _⟩
/-- how a list is grown: in place, or in a new block -/
def Grew (W W' : World) (l l' : Value) : Prop := (∃ g n m c, l = .slice (some ⟨g, 0, none⟩) n c ∧ l' = .slice (some ⟨g, 0, none⟩) m c ∧ n ≤ m ∧ W.grownBy W' (some g)) ∨ (∃ q, l'.ownBlock = some q ∧ W.heap.size ≤ q ∧ W.grownBy W' none)
theorem Grew.grown {W W' : World} {l l' : Value} (h : Grew W W' l l') : W.grownBy W' l.ownBlock := by
  rcases h with ⟨g, n, m, c, rfl, rfl, _, h⟩ | ⟨q, _, _, h⟩
  · exact h
  · exact ⟨h.os, h.tape, h.output, h.size, fun k hk _ => h.block k hk (by simp)⟩
theorem Grew.fresh {W W' : World} {l l' : Value} (h : Grew W W' l l') : l'.ownBlock = l.ownBlock ∨ ∃ q, l'.ownBlock = some q ∧ W.heap.size ≤ q := by
  rcases h with ⟨g, n, m, c, rfl, rfl, _, h⟩ | ⟨q, h1, h2, _⟩
  · exact .inl rfl
  · exact .inr ⟨q, h1, h2⟩
theorem own_prefix {W : World} {base e s g n m c : Nat} {xs ys : List Value} (h : W.ownsRow base e s (.slice (some ⟨g, 0, none⟩) m c) m (xs ++ ys)) (hl : xs.length = n * s) (hn : n ≤ m) : W.ownsRow base e s (.slice (some ⟨g, 0, none⟩) n c) n xs := by
  refine ⟨hl, ?_⟩
  rcases h.2 with ⟨h0, _⟩ | ⟨g', c', cur, e1, h1, h2, h3, h4, h5, h6⟩
  · cases h0
  · simp at e1
    obtain ⟨rfl, rfl⟩ := e1
    refine .inr ⟨g, c, cur, rfl, h1, h2, by omega, h4, h5, ?_⟩
    have e : cur.toList.take (n * s) = (cur.toList.take (m * s)).take (n * s) := by
      rw [List.take_take, Nat.min_eq_left (Nat.mul_le_mul_right s hn)]
    rw [e, h6, ← hl, List.take_left]
/-- a list that began as a row is grown: the rows stay -/
theorem Rrs.link {w W W' : World} {R : List Rr} {i : Nat} {r : Rr} {l l' : Value} {m : Nat} {ys : List Value} (h : Rrs w W R) (hi : R[i]? = some r) (hl : Link r.v l) (hf : ∀ j q, j ≠ i → R[j]? = some q → Far q.v l)
    (hg : Grew W W' l l') (hB : ∀ k, l.ownBlock = some k → w.heap.size ≤ k) (ho : W'.ownsRow w.heap.size r.t r.s l' m (r.xs ++ ys)) : Rrs w W' R ∧ Link r.v l' ∧ ∀ j q, j ≠ i → R[j]? = some q → Far q.v l' := by
  have hgr := hg.grown
  have hfr := hg.fresh
  have hnew : ∀ (j : Nat) (q : Rr), R[j]? = some q → Far q.v l → Far q.v l' := fun j q hj hq g h1 h2 => by
    rcases hfr with e | ⟨k, e, hk⟩
    · exact hq g h1 (by rw [← e]; exact h2)
    · have := ((h.own j q hj).lt g h1).2
      rw [e] at h2; simp at h2; omega
  have hown := h.own i r hi
  refine ⟨⟨fun j q hj => ?_, h.far, h.bel.grown hgr h.size hB⟩, ?_, fun j q hne hj => hnew j q hj (hf j q hne hj)⟩
  · by_cases e : j = i
    · subst e
      rw [hi] at hj
      injection hj with hj
      subst hj
      rcases hl with ⟨g, n0, m0, c, e1, e2, hn⟩ | hl
      · rcases hg with ⟨g', a, b, c', e3, e4, hab, hgg⟩ | ⟨q, _, _, hgg⟩
        · rw [e2] at e3
          simp at e3
          obtain ⟨rfl, rfl, rfl⟩ := e3
          have hn0 : r.n = n0 := by
            rcases hown.2 with ⟨e5, _⟩ | ⟨g5, c5, u5, e5, _⟩
            · rw [e1] at e5; cases e5
            · rw [e1] at e5; simp at e5; exact e5.2.1.symm
          have hmb : m = b := by
            rcases ho.2 with ⟨e5, _⟩ | ⟨g5, c5, u5, e5, _⟩
            · rw [e4] at e5; cases e5
            · rw [e4] at e5; simp at e5; exact e5.2.1.symm
          subst hmb
          rw [e4] at ho
          rw [e1, hn0]
          exact own_prefix ho (by rw [hown.1, hn0]) (by omega)
        · exact hown.kept hgg (by cases r.v.ownBlock <;> simp)
      · exact hown.kept hgr hl.ne
    · exact (h.own j q hj).kept hgr (hf j q e hj).ne
  · rcases hl with ⟨g, n0, m0, c, e1, e2, hn⟩ | hl
    · rcases hg with ⟨g', a, b, c', e3, e4, hab, hgg⟩ | ⟨q, h1, h2, _⟩
      · rw [e2] at e3
        simp at e3
        obtain ⟨rfl, rfl, rfl⟩ := e3
        exact .inl ⟨g, n0, b, c, e1, e4, by omega⟩
      · refine .inr fun k hk1 hk2 => ?_
        have := (hown.lt k hk1).2
        rw [h1] at hk2; simp at hk2; omega
    · exact .inr (hnew i r hi hl)

/-- append, of one value or more, to a list that is owned -/
theorem append_grew {w : World} {ops : Array Oper} {rest : List Oper} {o : Oper} {a : Act} {Q : Exit → Act → World → Prop} (hgd : o.guard = none) (s x : Operand) (t : Nat)
    (ho : o.op = .call { callee := .builtin .append, args := #[s, x], argTypes := #[t, t] })
    (base e : Nat) (i : TypeInfo) (z : Value) (size bytes : Nat) (ht : Try.prog.underlying t = some (.slice e)) (hi : Try.prog.info? e = some i) (hz : i.zero = some z) (hsize : i.size = size) (hby : i.bytes = bytes) (hzs : z.cells.size = size) (hsz : 0 < size)
    (v : Value) (n : Nat) (xs : List Value) (hs : a.eval s = v) (hown : w.ownsRow base e size v n xs)
    (ad : Addr) (m c : Nat) (news : List Value) (hx : a.eval x = .slice (some ad) m c) (hl : news.length = m * size) (hm : 1 ≤ m)
    (hnews : ∀ j u, news[j]? = some u → w.cell? (ad.add j) = some u) (h1 : ∀ u ∈ news, u.oneCell' = true) (h63 : n + m ≤ maxLen) (hb : (n + m) * bytes ≤ 140737488355328) (hbase : base ≤ w.heap.size)
    (h : ∀ v' w', w'.ownsRow base e size v' (n + m) (xs ++ news) → Grew w w' v v' → wpList Try.prog ops Q rest (a.put o.dst v') w') :
    wpList Try.prog ops Q (o :: rest) a w := by
  have fresh : ∀ {v' : Value} {w' : World}, w'.ownsRow w.heap.size e size v' (n + m) (xs ++ news) → ∃ q, v'.ownBlock = some q ∧ w.heap.size ≤ q := by
    intro v' w' h'
    rcases h'.2 with ⟨_, h0⟩ | ⟨g, cap, cur, rfl, hb, _⟩
    · omega
    · exact ⟨g, rfl, hb⟩
  rcases hown.2 with ⟨hv, h0⟩ | ⟨g, cap, cur, hv, hg1, hg2, hg3, hg4, hg5, hg6⟩
  · subst hv
    subst h0
    have hxs : xs = [] := List.eq_nil_of_length_eq_zero (by have := hown.1; omega)
    subst hxs
    refine wpList_append_grows w hgd s x t ho e i z size bytes ht hi hz hsize hby hzs hsz none 0 0 [] hs (fun _ => ⟨rfl, rfl⟩) (by simp) (fun b hb => by cases hb) ad m c news hx hl hnews h1 (by omega) h63 hb ?_
    intro v' w' h2 h3
    obtain ⟨q, hq1, hq2⟩ := fresh h2
    exact h v' w' (own_lower h2 hbase) (.inr ⟨q, hq1, hq2, h3⟩)
  · subst hv
    by_cases hroom : n + m ≤ cap
    · refine wpList_append_fits w hgd s x t ho base e i size ht hi hsize g n cap xs hs hown ad m c news hx hl hnews h1 hroom ?_
      intro w' h2 h3
      exact h _ w' h2 (.inl ⟨g, n, n + m, cap, rfl, rfl, by omega, h3⟩)
    · refine wpList_append_grows w hgd s x t ho e i z size bytes ht hi hz hsize hby hzs hsz (some ⟨g, 0, none⟩) n cap xs hs (fun hh => by cases hh) hown.1 (fun b hb j u hu => by cases hb; exact hown.cells rfl j u hu) ad m c news hx hl hnews h1 (by omega) h63 hb ?_
      intro v' w' h2 h3
      obtain ⟨q, hq1, hq2⟩ := fresh h2
      exact h v' w' (own_lower h2 hbase) (.inr ⟨q, hq1, hq2, h3⟩)

/-- cells that can be appended -/
def Srv (w : World) (u : Value) (m : Nat) (news : List Value) : Prop := (u = .slice none 0 0 ∧ m = 0 ∧ news = []) ∨ ∃ ad c, u = .slice (some ad) m c ∧ ∀ (j : Nat) (t : Value), news[j]? = some t → w.cell? (ad.add j) = some t
theorem own_srv {w : World} {base e s n : Nat} {v : Value} {xs : List Value} (h : w.ownsRow base e s v n xs) : Srv w v n xs := by
  rcases h.2 with ⟨rfl, h0⟩ | ⟨g, cap, cur, rfl, hb, hg, _⟩
  · subst h0
    exact .inl ⟨rfl, rfl, List.eq_nil_of_length_eq_zero (by have := h.1; omega)⟩
  · exact .inr ⟨⟨g, 0, none⟩, cap, rfl, h.cells rfl⟩
theorem Srv.keep {w w' : World} {u : Value} {m : Nat} {news : List Value} (h : Srv w u m news) (hb : Below w.heap.size w w') : Srv w' u m news := by
  rcases h with h | ⟨ad, c, hu, h⟩
  · exact .inl h
  · refine .inr ⟨ad, c, hu, fun j t hj => ?_⟩
    have hc := h j t hj
    rw [hb.cell (World.block_lt_of_cell? w _ hc)]; exact hc
/-- append of whatever there is, to a list that is owned -/
theorem append_srv {w : World} {ops : Array Oper} {rest : List Oper} {o : Oper} {a : Act} {Q : Exit → Act → World → Prop} (hgd : o.guard = none) (s x : Operand) (t : Nat)
    (ho : o.op = .call { callee := .builtin .append, args := #[s, x], argTypes := #[t, t] })
    (base e : Nat) (i : TypeInfo) (z : Value) (size bytes : Nat) (ht : Try.prog.underlying t = some (.slice e)) (hi : Try.prog.info? e = some i) (hz : i.zero = some z) (hsize : i.size = size) (hby : i.bytes = bytes) (hzs : z.cells.size = size) (hsz : 0 < size)
    (v : Value) (n : Nat) (xs : List Value) (hs : a.eval s = v) (hown : w.ownsRow base e size v n xs)
    (u : Value) (m : Nat) (news : List Value) (hx : a.eval x = u) (hsrc : Srv w u m news) (hl : news.length = m * size)
    (h1 : ∀ u ∈ news, u.oneCell' = true) (h63 : n + m ≤ maxLen) (hb : (n + m) * bytes ≤ 140737488355328) (hbase : base ≤ w.heap.size)
    (h : ∀ v' w', w'.ownsRow base e size v' (n + m) (xs ++ news) → w.grownBy w' v.ownBlock → (v'.ownBlock = v.ownBlock ∨ ∃ q, v'.ownBlock = some q ∧ w.heap.size ≤ q) → wpList Try.prog ops Q rest (a.put o.dst v') w') :
    wpList Try.prog ops Q (o :: rest) a w := by
  rcases hsrc with ⟨hu, h0, h2⟩ | ⟨ad, c, hu, hcell⟩
  · subst hu h0 h2
    refine wpList_plain hgd fun K hK => ?_
    have hrun := run_append_owned_none (P := Try.prog) (w := w) base t o.type e i size ht hi v n xs hown
    unfold Oper.wp
    simp [execOp, ho, resolve, invoke, builtin, hs, hx, hrun, Result.andThen]
    exact hK _ _ (h v w (by simpa using hown) ⟨rfl, rfl, rfl, Nat.le_refl _, fun _ _ _ => rfl⟩ (.inl rfl))
  · subst hu
    refine wpList_append_own_at _ hgd s x t ho base e i z size bytes ht hi hz hsize hby hzs hsz v n xs hs hown ad m c news hx hl hcell h1 h63 hb hbase ?_
    intro v' w' g1 g2 _ g4
    refine h v' w' g1 g2 ?_
    rcases g4 with e | e
    · exact .inl e
    · exact .inr ⟨_, e, Nat.le_refl _⟩
end Go.Proofs.Ytpifjghhlcjedaa.Rk

namespace Go.Proofs.Ytpifjghhlcjedaa
open Go.RowKit

set_option maxHeartbeats 4000000 in
theorem sameRows4_any (a1 : Option Addr) (c1 : Nat) (a2 : Option Addr) (c2 B1 B2 n : Nat) (L : List Rw) (w : World) (hz : n ≤ 1048576) (hL : Hid (L.length = n)) (h1 : Hid (w.ownsRow B1 53 10 (.slice a1 n c1) n (rcells L))) (h2 : Hid (w.ownsRow B2 53 10 (.slice a2 n c2) n (rcells L))) :
    Calls Try.prog 45 #[.slice a1 n c1, .slice a2 n c2] w fun e w' => e = .returned (.bool true) ∧ Below w.heap.size w w' := by
  go_enter Try.func45, Try.ntmps45
  go_wp2
  go_loopw [13] (fun i wq => ∃ m : Nat, m ≤ n ∧ i = .int .i64 m ∧ Below w.heap.size w wq) (fun i _ => n - (intOf i).toNat)
  case atStart => exact ⟨0, Nat.zero_le _, rfl, Below.refl _ _⟩
  case round =>
    obtain ⟨m, hm, rfl, hb⟩ := hrel
    have HB : Hid (Below w.heap.size w wr) := hb
    clear hb
    by_cases hmt : m < n
    · have hl := hL.out
      obtain ⟨p, hp⟩ : ∃ p, L[m]? = some p := ⟨_, List.getElem?_eq_getElem (by omega)⟩
      obtain ⟨g1, e1, r0, r1, r2, r3, r4, r5, r6, r7, r8, r9⟩ := own_ten h1.out hp hl
      obtain ⟨g2, e2, q0, q1, q2, q3, q4, q5, q6, q7, q8, q9⟩ := own_ten h2.out hp hl
      subst e1 e2
      have kk := bcell HB.out
      have hg1 : g1 < w.heap.size := (h1.out.lt g1 rfl).2
      have hg2 : g2 < w.heap.size := (h2.out.lt g2 rfl).2
      have k1 := fun o => kk.1 g1 o hg1
      have k2 := fun o => kk.1 g2 o hg2
      rw [← k1] at r0 r1 r2 r3 r4 r5 r6 r7 r8 r9
      rw [← k2] at q0 q1 q2 q3 q4 q5 q6 q7 q8 q9
      obtain ⟨⟨s, o, l, nn⟩, b1, b2, b3, x1, x2, x3⟩ := p
      simp only at r0 r1 r2 r3 r4 r5 r6 r7 r8 r9 q0 q1 q2 q3 q4 q5 q6 q7 q8 q9
      have hm0 : (0 : Int) ≤ (m : Int) := by omega
      have hml : (m : Int) < (n : Int) := by omega
      clear hp hl kk k1 k2
      go_wp2
      go_region
      go_wp2
      go_roundw
      case rel => exact ⟨m + 1, by omega, by go_num, HB.out.drew⟩
      case measure => simp [intOf]; omega
    · obtain rfl : m = n := by omega
      go_wp2
      go_ret
      exact ⟨rfl, HB.out⟩
end Go.Proofs.Ytpifjghhlcjedaa

namespace Go.Proofs.Ytpifjghhlcjedaa
open Go.RowKit

theorem spcs_one (L : List Pc) : ∀ u ∈ spcs L, u.oneCell' = true := by
  intro u hu
  unfold spcs at hu
  obtain ⟨p, _, hp⟩ := List.mem_flatMap.1 hu
  unfold spc at hp
  simp at hp
  rcases hp with rfl | rfl | rfl <;> rfl
theorem rcells_one (L : List Rw) : ∀ u ∈ rcells L, u.oneCell' = true := by
  intro u hu
  unfold rcells at hu
  obtain ⟨p, _, hp⟩ := List.mem_flatMap.1 hu
  exact row_one p u hp
/-- bytes of whatever value -/
def Bys (xs : List Value) : Prop := ∀ j, j < xs.length → ∃ z, xs[j]? = some (.int .u8 z)
theorem bys_bv (l : List UInt8) : Bys (Ab.bv l) := fun j hj => by
  rw [Ab.bv_length] at hj
  exact ⟨(l[j].toNat : Int), by simp [Ab.bv, hj]⟩
theorem Bys.set {xs : List Value} (h : Bys xs) (j : Nat) (z : Int) : Bys (xs.set j (.int .u8 z)) := fun k hk => by
  rw [List.length_set] at hk
  by_cases e : j = k
  · subst e; exact ⟨z, by rw [List.getElem?_set_self hk]⟩
  · obtain ⟨y, hy⟩ := h k hk
    exact ⟨y, by rw [List.getElem?_set_ne e]; exact hy⟩
theorem own_ptr {W : World} {base t s n c : Nat} {ao : Option Addr} {xs : List Value} (h : W.ownsRow base t s (.slice ao n c) n xs) (hn : 1 ≤ n) : ∃ g, ao = some ⟨g, 0, none⟩ := by
  rcases h.2 with ⟨_, h0⟩ | ⟨g, cap, cur, h0, _⟩
  · omega
  · simp only [Value.slice.injEq] at h0
    exact ⟨g, h0.1⟩
theorem own_get {W : World} {base t s g n c : Nat} {xs : List Value} (h : W.ownsRow base t s (.slice (some ⟨g, 0, none⟩) n c) n xs) {k : Nat} (hk : k < n * s) : W.cell? ⟨g, k, none⟩ = some (xs.getD k (.int .i64 0)) := by
  rw [h.cellAt k hk]
  have hl : k < xs.length := by have := h.1; omega
  simp [List.getD, hl]
/-- the ten rows that the law makes -/
def RL (n m : Nat) (TX : List UInt8) (LP : List Pc) (LR : List Rw) (vt va vb vc vp vq vx vy vP vR : Value) (na nc np nx : Nat) (ya yc yp yx : List Value) : List Rk.Rr :=
  [⟨5, 1, vt, n, Ab.bv TX⟩, ⟨5, 1, va, na, ya⟩, ⟨5, 1, vb, n, Ab.bv TX⟩, ⟨5, 1, vc, nc, yc⟩, ⟨30, 3, vp, np, yp⟩, ⟨30, 3, vq, m, spcs LP⟩, ⟨53, 10, vx, nx, yx⟩, ⟨53, 10, vy, m, rcells LR⟩, ⟨30, 3, vP, m, spcs LP⟩, ⟨53, 10, vR, m, rcells LR⟩]
theorem store10 {w W : World} {R : List Rk.Rr} {i t s g n c : Nat} {xs : List Value} (h : Rk.Rrs w W R) (hi : R[i]? = some ⟨t, s, .slice (some ⟨g, 0, none⟩) n c, n, xs⟩) (j : Nat) (u0 u1 u2 u3 u4 u5 u6 u7 u8 u9 : Value) :
    Rk.Rrs w ((((((((((W.setCell ⟨g, j, none⟩ u0).setCell ⟨g, j + 1, none⟩ u1).setCell ⟨g, j + 2, none⟩ u2).setCell ⟨g, j + 3, none⟩ u3).setCell ⟨g, j + 4, none⟩ u4).setCell ⟨g, j + 5, none⟩ u5).setCell ⟨g, j + 6, none⟩ u6).setCell ⟨g, j + 7, none⟩ u7).setCell ⟨g, j + 8, none⟩ u8).setCell ⟨g, j + 9, none⟩ u9) (R.set i ⟨t, s, .slice (some ⟨g, 0, none⟩) n c, n, (((((((((xs.set j u0).set (j + 1) u1).set (j + 2) u2).set (j + 3) u3).set (j + 4) u4).set (j + 5) u5).set (j + 6) u6).set (j + 7) u7).set (j + 8) u8).set (j + 9) u9⟩) := by
  have hlt := (List.getElem?_eq_some_iff.1 hi).1
  have k0 := h.store hi j u0
  have k1 := k0.store (i := i) (by rw [List.getElem?_set_self hlt]) (j + 1) u1
  rw [List.set_set] at k1
  have k2 := k1.store (i := i) (by rw [List.getElem?_set_self hlt]) (j + 2) u2
  rw [List.set_set] at k2
  have k3 := k2.store (i := i) (by rw [List.getElem?_set_self hlt]) (j + 3) u3
  rw [List.set_set] at k3
  have k4 := k3.store (i := i) (by rw [List.getElem?_set_self hlt]) (j + 4) u4
  rw [List.set_set] at k4
  have k5 := k4.store (i := i) (by rw [List.getElem?_set_self hlt]) (j + 5) u5
  rw [List.set_set] at k5
  have k6 := k5.store (i := i) (by rw [List.getElem?_set_self hlt]) (j + 6) u6
  rw [List.set_set] at k6
  have k7 := k6.store (i := i) (by rw [List.getElem?_set_self hlt]) (j + 7) u7
  rw [List.set_set] at k7
  have k8 := k7.store (i := i) (by rw [List.getElem?_set_self hlt]) (j + 8) u8
  rw [List.set_set] at k8
  have k9 := k8.store (i := i) (by rw [List.getElem?_set_self hlt]) (j + 9) u9
  rw [List.set_set] at k9
  exact k9
theorem gds_fine {O A : List UInt8} {t : Tr} (hg : Gds O A t.list) (hz : (txt O A t.list).length ≤ 1048576) : t.fine :=
  ⟨(Tr.fits_list t).2 (fun p hp => (hg p hp).fit), by rw [← t.size_list]; exact Nat.le_trans (len_le_txt hg) hz⟩

set_option maxRecDepth 10000 in
set_option maxHeartbeats 8000000 in
theorem sheetFresh_walk (a1 : Option Addr) (c1 : Nat) (l1 : List UInt8) (as' : Option Addr) (cs' : Nat) (qs : List Sq) (w : World) (h1 : Hid (Ab.Rd w (.slice a1 l1.length c1) l1)) (h2 : Hid (Scs w as' qs)) (hz : l1.length + qsum qs ≤ 1048574) (hE : qeds qs ≤ 1073741824) (hqs : qs.length ≤ 1048576) :
    Calls Try.prog 7 #[.slice a1 l1.length c1, .slice as' qs.length cs'] w fun e w' => e = .returned (.bool true) ∧ Below w.heap.size w w' := by
  have HA := hid awake_any
  obtain ⟨i5, hi5, hz5, hs5, hb5⟩ := info_parts Ab.info5
  obtain ⟨i30, hi30, hz30, hs30, hb30⟩ := info_parts infoSp
  obtain ⟨i53, hi53, hz53, hs53, hb53⟩ := info_parts info72
  have hl1 : (l1.length : Int) ≤ 1048576 := by omega
  have hql : (qs.length : Int) ≤ 1048576 := by omega
  go_enter Try.func7, Try.ntmps7
  go_wp2_with fail
  refine (HA.out _).mono ?_
  rintro e w1 ⟨rfl, b1⟩
  have B1 := hid b1
  clear b1
  go_wp2_with fail
  refine (New_any a1 c1 l1 _ (by omega) (hid (h1.out.keep B1.out))).mono ?_
  rintro e w2 ⟨sb, bb, vo, a, t, rfl, hS, hN, b2⟩
  obtain ⟨o1, o2, o3, o4⟩ := hN.ok (by omega)
  have LZ := hid (show Lz w1 w2 sb l1 [] l1 0 from ⟨⟨bb, vo, _, t, a, hS, o1, o2, o3⟩, b2⟩)
  have SC := hid (h2.out.keep B1.out)
  clear hS hN b2 o1 o2 o3 o4
  by_cases hbad : 200 < (qs.length : Int) ∨ 65536 < (l1.length : Int)
  · by_cases hb2 : 200 < (qs.length : Int)
    · go_wp2
      go_ret
      exact ⟨rfl, bT B1.out LZ.out.bel⟩
    · have hb3 : 65536 < (l1.length : Int) := by omega
      have hb4 : decide (200 < (qs.length : Int)) = false := decide_eq_false hb2
      clear hbad
      go_wp2
      go_ret
      exact ⟨rfl, bT B1.out LZ.out.bel⟩
  have hb4 : decide (200 < (qs.length : Int)) = false := decide_eq_false (by omega)
  have hb6 : decide (65536 < (l1.length : Int)) = false := decide_eq_false (by omega)
  clear hbad
  go_wp2_with fail
  go_loopw [43] (fun u wr => ∃ (i : Nat) (A T : List UInt8) (e : Int), u = .int .i64 i ∧ i ≤ qs.length ∧ Lz w1 wr sb l1 A T e ∧ T.length + qsum (qs.drop i) ≤ 1048574 ∧ A.length + qsum (qs.drop i) ≤ 1048576 ∧ 0 ≤ e ∧ e + 2 * (qeds (qs.drop i) : Int) ≤ 4611686018427387904) (fun u _ => qs.length - (intOf u).toNat)
  case atStart => exact ⟨0, [], l1, 0, rfl, Nat.zero_le _, LZ.out, hz, by simp; omega, Int.le_refl _, by simp; omega⟩
  case round =>
    obtain ⟨i, A, T, e, rfl, hi, hL, hT, hA, he0, he1⟩ := hrel
    have HL := hid hL
    clear hL LZ
    have hi0 : (0 : Int) ≤ (i : Int) := by omega
    by_cases hlt : i < qs.length
    · obtain ⟨q, hq⟩ : ∃ q, qs[i]? = some q := ⟨qs[i], List.getElem?_eq_getElem hlt⟩
      obtain ⟨g, o, ap, cp, ae, ce, rfl, z0, z1, z2, z3, z4, zr⟩ := SC.out.cells i q hq
      have hsm := SC.out.small q (List.mem_of_getElem? hq)
      have HSm := hid hsm
      have BZ := hid HL.out.bel
      have ZR := hid zr
      have HQS := hid (qsum_drop hq)
      have HQE := hid (qeds_drop hq)
      have x0 : wr.cell? ⟨g, o + i * 5, none⟩ = some (.int .i64 q.kind) := by rw [BZ.out.cell (lt_cell z0)]; exact z0
      have x1 : wr.cell? ⟨g, o + i * 5 + 1, none⟩ = some (.int .i64 q.a) := by rw [BZ.out.cell (lt_cell z1)]; exact z1
      have x2 : wr.cell? ⟨g, o + i * 5 + 2, none⟩ = some (.int .i64 q.b) := by rw [BZ.out.cell (lt_cell z2)]; exact z2
      have x3 : wr.cell? ⟨g, o + i * 5 + 3, none⟩ = some (.slice ap q.p.length cp) := by rw [BZ.out.cell (lt_cell z3)]; exact z3
      have x4 : wr.cell? ⟨g, o + i * 5 + 4, none⟩ = some (.slice ae q.es.length ce) := by rw [BZ.out.cell (lt_cell z4)]; exact z4
      clear z0 z1 z2 z3 z4 zr hsm hq
      have him : (i : Int) < (qs.length : Int) := by omega
      by_cases hP : 4096 < (q.p.length : Int)
      · go_wp2
        go_ret
        exact ⟨rfl, bT B1.out (bT HL.out.bel (bAlloc (Below.refl _ _) _))⟩
      · have hP2 : (q.p.length : Int) ≤ 4096 := by omega
        have AC := hid (fun (X : Obj) => act_any w1 (wr.alloc X) sb l1 A T e q ap ae cp ce (hid (HL.out.keep (bAlloc (Below.refl _ _) X))) ZR (by omega) (by have := HQS.out; omega) (by have := HQS.out; omega) (hid HSm.out.2) (hid ⟨he0, by have := HQE.out; omega⟩) HSm.out.1)
        clear hP
        go_wp2_with fail
        refine (AC.out _).mono ?_
        rintro e9 w3 ⟨rfl, hg⟩
        rw [erE_def]
        obtain ⟨A', T', e', hl, k1, k2, k3, k4⟩ : ∃ A' T' e', Lz w1 w3 sb l1 A' T' e' ∧ T'.length + qsum (qs.drop (i + 1)) ≤ 1048574 ∧ A'.length + qsum (qs.drop (i + 1)) ≤ 1048576 ∧ 0 ≤ e' ∧ e' + 2 * (qeds (qs.drop (i + 1)) : Int) ≤ 4611686018427387904 := by
          have s1 := HQS.out
          have s2 := HQE.out
          cases hst : stT T q with
          | none =>
            rw [hst] at hg
            exact ⟨A, T, e, hg, by omega, by omega, he0, by omega⟩
          | some T' =>
            rw [hst] at hg
            obtain ⟨A', e2, g1, g2, g3, g4⟩ := hg
            have := stT_len hst
            exact ⟨A', T', e2, g1, by omega, by omega, by omega, by omega⟩
        have HL' := hid hl
        clear hl hg AC x0 x1 x2 x3 x4
        go_wp2
        go_roundw
        case rel => exact ⟨i + 1, A', T', e', by go_num, by omega, HL'.out, k1, k2, k3, k4⟩
        case measure => first | (simp [intOf]; done) | (simp [intOf]; omega)
    · have him : ¬ ((i : Int) < (qs.length : Int)) := by omega
      obtain ⟨wz, rfl⟩ : ∃ X, X = wr := ⟨_, rfl⟩
      obtain ⟨⟨bb', vo', va', tr, ar, hS, hw, hg, rfl⟩, hbel⟩ := HL.out
      have HS := hid hS
      have HW := hid hw
      have HG := hid hg
      have BW := hid (bT B1.out hbel)
      obtain ⟨n, hn⟩ : ∃ n, (txt l1 A tr.list).length = n := ⟨_, rfl⟩
      have hn1 : n ≤ 1048574 := by omega
      have hm1 : tr.size ≤ 1048576 := (gds_fine hg (by omega)).2
      have HF := hid (gds_fine hg (by omega))
      have HNN := hid hn
      clear hS hw hg hbel hT hn HL
      have HBy := hid (fun W (hW : Below wz.heap.size wz W) => Bytes_own sb bb' vo' va' l1 A tr ar e w1.heap.size n W (hid (HS.out.keep hW)) HW HG (hid (by rw [HNN.out]; omega)) HNN)
      have HSl := hid (fun W (hW : Below wz.heap.size wz W) => Slice_some sb bb' vo' va' l1 A tr ar e w1.heap.size 0 n W (hid (HS.out.keep hW)) HW HG (hid (by rw [HNN.out]; omega)) (Nat.zero_le _) (by rw [HNN.out]; exact Nat.le_refl _))
      simp only [List.drop_zero, Nat.sub_zero, Int.natCast_zero] at HSl
      rw [List.take_of_length_le (by rw [HNN.out]; exact Nat.le_refl _)] at HSl
      have HPc := hid (fun W (hW : Below wz.heap.size wz W) => Pieces_any (some ⟨sb, 0, none⟩) ar e tr W (HS.out.keep hW).sht (HS.out.keep hW).tree (by omega))
      have HRw := hid (fun W (hW : Below wz.heap.size wz W) => sRows_any (some ⟨sb, 0, none⟩) ar e tr W (HS.out.keep hW).sht (HS.out.keep hW).tree (hid (by omega)))
      generalize hTX : txt l1 A tr.list = TX at *
      clear hTX
      go_wp2_with fail
      refine (HBy.out _ (bAlloc (Below.refl _ _) _)).mono ?_
      rintro e9 w3 ⟨a3, c3, rfl, hO3, hb3⟩
      have E3 := hid (show w3.ownsRow wz.heap.size 5 1 (.slice (some ⟨wz.heap.size, 0, none⟩) 0 0) 0 [] from Ab.own_keep (World.ownsRow_made wz #[] 0 (Nat.le_refl _) (by decide) rfl) hb3)
      have B3 := hid (bTl (bAlloc (Below.refl wz.heap.size wz) _) hb3)
      have O3 := hid hO3
      clear hb3 hO3
      go_wp2_with (at_builtin; refine Rk.append_srv rfl (.tmp 55) (.tmp 57) 61 rfl wz.heap.size 5 i5 (.int .u8 0) 1 1 Try.underlying61 hi5 hz5 hs5 hb5 rfl (by decide) (.slice (some ⟨wz.heap.size, 0, none⟩) 0 0) 0 [] rfl E3.out (.slice a3 n c3) n (Ab.bv TX) rfl (Rk.own_srv O3.out) ?ql3 (Ab.bv_one _) ?qm3 ?qb3 ?qs3 ?_)
      case ql3 => rw [Ab.bv_length, HNN.out]; omega
      case qm3 => unfold maxLen; omega
      case qb3 => omega
      case qs3 => first | exact B3.out.size | (have := B3.out.size; simp; omega)
      intro v4 w4 hown4 hgrow4 _
      have B4 : Below wz.heap.size wz w4 := B3.out.grown hgrow4 B3.out.size (fun k hk => by simp [Value.ownBlock] at hk; omega)
      have O4 : w4.ownsRow wz.heap.size 5 1 v4 n (Ab.bv TX) := by simpa using hown4
      obtain ⟨at', ct, hv4⟩ := own_shape O4
      subst hv4
      have R1 := hid (show Rk.Rrs wz w4 [⟨5, 1, .slice at' n ct, n, Ab.bv TX⟩] from (Rk.Rrs.nil wz).new B4 O4)
      clear hown4 hgrow4 B4 O4 E3 B3 O3
      go_wp2_with fail
      refine (HBy.out _ R1.out.bel).mono ?_
      rintro e9 w5 ⟨aa, ca, rfl, hO, hb⟩
      have R2 := hid (show Rk.Rrs wz w5 [⟨5, 1, .slice at' n ct, n, Ab.bv TX⟩, ⟨5, 1, .slice aa n ca, n, Ab.bv TX⟩] from R1.out.new hb hO)
      clear hO hb R1
      go_wp2_with fail
      refine (HBy.out _ R2.out.bel).mono ?_
      rintro e9 w6 ⟨ab, cb, rfl, hO, hb⟩
      have R3 := hid (show Rk.Rrs wz w6 [⟨5, 1, .slice at' n ct, n, Ab.bv TX⟩, ⟨5, 1, .slice aa n ca, n, Ab.bv TX⟩, ⟨5, 1, .slice ab n cb, n, Ab.bv TX⟩] from R2.out.new hb hO)
      clear hO hb R2
      go_wp2_with fail
      refine (HSl.out _ R3.out.bel).mono ?_
      rintro e9 w7 ⟨ac, cc, rfl, hO, hb⟩
      have R4 := hid (show Rk.Rrs wz w7 [⟨5, 1, .slice at' n ct, n, Ab.bv TX⟩, ⟨5, 1, .slice aa n ca, n, Ab.bv TX⟩, ⟨5, 1, .slice ab n cb, n, Ab.bv TX⟩, ⟨5, 1, .slice ac n cc, n, Ab.bv TX⟩] from R3.out.new hb hO)
      clear hO hb R3
      obtain ⟨m, hm⟩ : ∃ m, tr.size = m := ⟨_, rfl⟩
      obtain ⟨LP, hLP⟩ : ∃ L, tr.list = L := ⟨_, rfl⟩
      obtain ⟨LR, hLR⟩ : ∃ L, rowsT tr = L := ⟨_, rfl⟩
      have HLP := hid (show LP.length = m by rw [← hLP, ← hm, tr.size_list])
      have HLR := hid (show LR.length = m by rw [← hLR, ← hm, rowsT_length])
      have HCK := hid (show checkB LR = true by rw [← hLR]; exact checkB_rows HW.out HF.out)
      rw [hm, hLP] at HPc
      rw [hm, hLR] at HRw
      have hmm : m ≤ 1048576 := by omega
      clear hm hLP hLR
      go_wp2_with fail
      refine (HPc.out _ R4.out.bel).mono ?_
      rintro e9 w8 ⟨ap, cp, rfl, hO, hb⟩
      have R5 := hid (R4.out.new hb hO)
      clear hO hb R4
      go_wp2_with fail
      refine (HPc.out _ R5.out.bel).mono ?_
      rintro e9 w9 ⟨aq, cq, rfl, hO, hb⟩
      have R6 := hid (R5.out.new hb hO)
      clear hO hb R5
      go_wp2_with fail
      refine (HRw.out _ R6.out.bel).mono ?_
      rintro e9 w10 ⟨ax, cx, rfl, hO, hb⟩
      have R7 := hid (R6.out.new hb hO)
      clear hO hb R6
      go_wp2_with fail
      refine (HRw.out _ R7.out.bel).mono ?_
      rintro e9 w11 ⟨ay, cy, rfl, hO, hb⟩
      have R8 := hid (show Rk.Rrs wz w11 [⟨5, 1, .slice at' n ct, n, Ab.bv TX⟩, ⟨5, 1, .slice aa n ca, n, Ab.bv TX⟩, ⟨5, 1, .slice ab n cb, n, Ab.bv TX⟩, ⟨5, 1, .slice ac n cc, n, Ab.bv TX⟩, ⟨30, 3, .slice ap m cp, m, spcs LP⟩, ⟨30, 3, .slice aq m cq, m, spcs LP⟩, ⟨53, 10, .slice ax m cx, m, rcells LR⟩, ⟨53, 10, .slice ay m cy, m, rcells LR⟩] from R7.out.new hb hO)
      clear hO hb R7
      go_wp2_with (at_builtin; refine Rk.append_srv rfl (.tmp 78) (.tmp 79) 74 rfl w11.heap.size 30 i30 (.agg #[.int .i64 0, .int .i64 0, .int .i64 0]) 3 24 Try.underlying74 hi30 hz30 hs30 hb30 rfl (by decide) (.slice (some ⟨w11.heap.size, 0, none⟩) 0 0) 0 [] rfl (World.ownsRow_made w11 #[] 0 (Nat.le_refl _) (by decide) rfl) (.slice aq m cq) m (spcs LP) rfl (Rk.Srv.keep (Rk.own_srv (R8.out.own 5 _ rfl)) (bAlloc (Below.refl _ _) _)) ?ql5 (spcs_one _) ?qm5 ?qb5 ?qs5 ?_)
      case ql5 => rw [spcs_length, HLP.out]
      case qm5 => unfold maxLen; omega
      case qb5 => omega
      case qs5 => simp
      intro v12 w12 hown12 hgrow12 _
      have B12 : Below w11.heap.size w11 w12 := (bAlloc (Below.refl _ _) _).grown hgrow12 (by simp) (fun k hk => by simp [Value.ownBlock] at hk; omega)
      have O12 : w12.ownsRow w11.heap.size 30 3 v12 m (spcs LP) := by simpa using hown12
      obtain ⟨aP, cP, hv12⟩ := own_shape O12
      subst hv12
      have R9 := hid (show Rk.Rrs wz w12 [⟨5, 1, .slice at' n ct, n, Ab.bv TX⟩, ⟨5, 1, .slice aa n ca, n, Ab.bv TX⟩, ⟨5, 1, .slice ab n cb, n, Ab.bv TX⟩, ⟨5, 1, .slice ac n cc, n, Ab.bv TX⟩, ⟨30, 3, .slice ap m cp, m, spcs LP⟩, ⟨30, 3, .slice aq m cq, m, spcs LP⟩, ⟨53, 10, .slice ax m cx, m, rcells LR⟩, ⟨53, 10, .slice ay m cy, m, rcells LR⟩, ⟨30, 3, .slice aP m cP, m, spcs LP⟩] from R8.out.new B12 O12)
      clear hown12 hgrow12 B12 O12 R8
      go_wp2_with (at_builtin; refine Rk.append_srv rfl (.tmp 81) (.tmp 82) 50 rfl w12.heap.size 53 i53 (.agg #[.int .i64 0, .int .i64 0, .int .i64 0, .int .i64 0, .bool false, .bool false, .bool false, .int .i64 0, .int .i64 0, .int .i64 0]) 10 64 Try.underlying50 hi53 hz53 hs53 hb53 rfl (by decide) (.slice (some ⟨w12.heap.size, 0, none⟩) 0 0) 0 [] rfl (World.ownsRow_made w12 #[] 0 (Nat.le_refl _) (by decide) rfl) (.slice ay m cy) m (rcells LR) rfl (Rk.Srv.keep (Rk.own_srv (R9.out.own 7 _ rfl)) (bAlloc (Below.refl _ _) _)) ?ql6 (rcells_one _) ?qm6 ?qb6 ?qs6 ?_)
      case ql6 => rw [rcells_length, HLR.out]
      case qm6 => unfold maxLen; omega
      case qb6 => omega
      case qs6 => simp
      intro v13 w13 hown13 hgrow13 _
      have B13 : Below w12.heap.size w12 w13 := (bAlloc (Below.refl _ _) _).grown hgrow13 (by simp) (fun k hk => by simp [Value.ownBlock] at hk; omega)
      have O13 : w13.ownsRow w12.heap.size 53 10 v13 m (rcells LR) := by simpa using hown13
      obtain ⟨aR, cR, hv13⟩ := own_shape O13
      subst hv13
      have R10 := hid (show Rk.Rrs wz w13 (RL n m TX LP LR (.slice at' n ct) (.slice aa n ca) (.slice ab n cb) (.slice ac n cc) (.slice ap m cp) (.slice aq m cq) (.slice ax m cx) (.slice ay m cy) (.slice aP m cP) (.slice aR m cR) n n m m (Ab.bv TX) (Ab.bv TX) (spcs LP) (rcells LR)) from R9.out.new B13 O13)
      clear hown13 hgrow13 B13 O13 R9
      have hn0 : (0 : Int) ≤ (n : Int) := by omega
      have hnI : (n : Int) ≤ 1048576 := by omega
      have hmI : (m : Int) ≤ 1048576 := by omega
      have BI := hid (bys_bv TX)
      go_wp2_with fail
      go_loopw [86] (fun u wr => ∃ (j : Nat) (ya : List Value), u = .int .i64 j ∧ j ≤ n ∧ Bys ya ∧ Rk.Rrs wz wr (RL n m TX LP LR (.slice at' n ct) (.slice aa n ca) (.slice ab n cb) (.slice ac n cc) (.slice ap m cp) (.slice aq m cq) (.slice ax m cx) (.slice ay m cy) (.slice aP m cP) (.slice aR m cR) n n m m ya (Ab.bv TX) (spcs LP) (rcells LR))) (fun u _ => n - (intOf u).toNat)
      case atStart => exact ⟨0, Ab.bv TX, rfl, Nat.zero_le _, BI.out, R10.out⟩
      case round =>
        obtain ⟨j, ya, rfl, hj, hby, hR⟩ := hrel
        have RA := hid hR
        have HBY1 := hid hby
        clear hR hby R10
        have hj0 : (0 : Int) ≤ (j : Int) := by omega
        by_cases hlj : j < n
        · have hj1 : (j : Int) < (n : Int) := by omega
          have O9 := hid (show wr.ownsRow wz.heap.size 5 1 (.slice aa n ca) n ya from RA.out.own 1 _ rfl)
          obtain ⟨ga, hga⟩ := own_ptr O9.out (by omega)
          subst hga
          obtain ⟨z, hz0⟩ := HBY1.out j (by have := O9.out.1; omega)
          have c0 : wr.cell? ⟨ga, j, none⟩ = some (.int .u8 z) := by rw [O9.out.cellAt j (by omega)]; exact hz0
          have fz := O9.out.frozenAt j
          have RS := hid (fun u => RA.out.store (i := 1) rfl j u)
          have BY2 := hid (fun z' => HBY1.out.set j z')
          clear hz0
          go_wp2
          go_roundw
          case rel => exact ⟨j + 1, _, by go_num, by omega, BY2.out _, RS.out _⟩
          case measure => first | (simp [intOf]; done) | (simp [intOf]; omega)
        · have hj1 : ¬ ((j : Int) < (n : Int)) := by omega
          go_wp2_with fail
          go_loopw [98] (fun u wr => ∃ (j : Nat) (yc : List Value), u = .int .i64 j ∧ j ≤ n ∧ Bys yc ∧ Rk.Rrs wz wr (RL n m TX LP LR (.slice at' n ct) (.slice aa n ca) (.slice ab n cb) (.slice ac n cc) (.slice ap m cp) (.slice aq m cq) (.slice ax m cx) (.slice ay m cy) (.slice aP m cP) (.slice aR m cR) n n m m ya yc (spcs LP) (rcells LR))) (fun u _ => n - (intOf u).toNat)
          case atStart => exact ⟨0, Ab.bv TX, rfl, Nat.zero_le _, BI.out, RA.out⟩
          case round =>
            obtain ⟨j, yc, rfl, hj, hby, hR⟩ := hrel
            have RC := hid hR
            have HBY3 := hid hby
            clear hR hby RA
            have hj0 : (0 : Int) ≤ (j : Int) := by omega
            by_cases hlj : j < n
            · have hj1 : (j : Int) < (n : Int) := by omega
              have O9 := hid (show wr.ownsRow wz.heap.size 5 1 (.slice ac n cc) n yc from RC.out.own 3 _ rfl)
              obtain ⟨ga, hga⟩ := own_ptr O9.out (by omega)
              subst hga
              obtain ⟨z, hz0⟩ := HBY3.out j (by have := O9.out.1; omega)
              have c0 : wr.cell? ⟨ga, j, none⟩ = some (.int .u8 z) := by rw [O9.out.cellAt j (by omega)]; exact hz0
              have fz := O9.out.frozenAt j
              have RS := hid (fun u => RC.out.store (i := 3) rfl j u)
              have BY2 := hid (fun z' => HBY3.out.set j z')
              clear hz0
              go_wp2
              go_roundw
              case rel => exact ⟨j + 1, _, by go_num, by omega, BY2.out _, RS.out _⟩
              case measure => first | (simp [intOf]; done) | (simp [intOf]; omega)
            · have hj1 : ¬ ((j : Int) < (n : Int)) := by omega
              go_wp2_with fail
              go_loopw [110] (fun u wr => ∃ (j : Nat) (yp : List Value), u = .int .i64 j ∧ j ≤ m ∧ Rk.Rrs wz wr (RL n m TX LP LR (.slice at' n ct) (.slice aa n ca) (.slice ab n cb) (.slice ac n cc) (.slice ap m cp) (.slice aq m cq) (.slice ax m cx) (.slice ay m cy) (.slice aP m cP) (.slice aR m cR) n n m m ya yc yp (rcells LR))) (fun u _ => m - (intOf u).toNat)
              case atStart => exact ⟨0, spcs LP, rfl, Nat.zero_le _, RC.out⟩
              case round =>
                obtain ⟨j, yp, rfl, hj, hR⟩ := hrel
                have RP := hid hR
                clear hR RC
                have hj0 : (0 : Int) ≤ (j : Int) := by omega
                by_cases hlj : j < m
                · have hj1 : (j : Int) < (m : Int) := by omega
                  have O9 := hid (show wr.ownsRow wz.heap.size 30 3 (.slice ap m cp) m yp from RP.out.own 4 _ rfl)
                  obtain ⟨ga, hga⟩ := own_ptr O9.out (by omega)
                  subst hga
                  have c0 := own_get O9.out (k := j * 3) (by omega)
                  have c1 := own_get O9.out (k := j * 3 + 1) (by omega)
                  have c2 := own_get O9.out (k := j * 3 + 2) (by omega)
                  have f0 := O9.out.frozenAt (j * 3)
                  have f1 := O9.out.frozenAt (j * 3 + 1)
                  have f2 := O9.out.frozenAt (j * 3 + 2)
                  have RS := hid (fun a b d => RP.out.store3 (i := 4) rfl (j * 3) a b d)
                  go_wp2
                  go_roundw
                  case rel => exact ⟨j + 1, _, by go_num, by omega, RS.out _ _ _⟩
                  case measure => first | (simp [intOf]; done) | (simp [intOf]; omega)
                · have hj1 : ¬ ((j : Int) < (m : Int)) := by omega
                  go_wp2_with fail
                  go_loopw [120] (fun u wr => ∃ (j : Nat) (yx : List Value), u = .int .i64 j ∧ j ≤ m ∧ Rk.Rrs wz wr (RL n m TX LP LR (.slice at' n ct) (.slice aa n ca) (.slice ab n cb) (.slice ac n cc) (.slice ap m cp) (.slice aq m cq) (.slice ax m cx) (.slice ay m cy) (.slice aP m cP) (.slice aR m cR) n n m m ya yc yp yx)) (fun u _ => m - (intOf u).toNat)
                  case atStart => exact ⟨0, rcells LR, rfl, Nat.zero_le _, RP.out⟩
                  case round =>
                    obtain ⟨j, yx, rfl, hj, hR⟩ := hrel
                    have RX := hid hR
                    clear hR RP
                    have hj0 : (0 : Int) ≤ (j : Int) := by omega
                    by_cases hlj : j < m
                    · have hj1 : (j : Int) < (m : Int) := by omega
                      have O9 := hid (show wr.ownsRow wz.heap.size 53 10 (.slice ax m cx) m yx from RX.out.own 6 _ rfl)
                      obtain ⟨ga, hga⟩ := own_ptr O9.out (by omega)
                      subst hga
                      have c0 := own_get O9.out (k := j * 10) (by omega)
                      have f0 := O9.out.frozenAt (j * 10)
                      have c1 := own_get O9.out (k := j * 10 + 1) (by omega)
                      have f1 := O9.out.frozenAt (j * 10 + 1)
                      have c2 := own_get O9.out (k := j * 10 + 2) (by omega)
                      have f2 := O9.out.frozenAt (j * 10 + 2)
                      have c3 := own_get O9.out (k := j * 10 + 3) (by omega)
                      have f3 := O9.out.frozenAt (j * 10 + 3)
                      have c4 := own_get O9.out (k := j * 10 + 4) (by omega)
                      have f4 := O9.out.frozenAt (j * 10 + 4)
                      have c5 := own_get O9.out (k := j * 10 + 5) (by omega)
                      have f5 := O9.out.frozenAt (j * 10 + 5)
                      have c6 := own_get O9.out (k := j * 10 + 6) (by omega)
                      have f6 := O9.out.frozenAt (j * 10 + 6)
                      have c7 := own_get O9.out (k := j * 10 + 7) (by omega)
                      have f7 := O9.out.frozenAt (j * 10 + 7)
                      have c8 := own_get O9.out (k := j * 10 + 8) (by omega)
                      have f8 := O9.out.frozenAt (j * 10 + 8)
                      have c9 := own_get O9.out (k := j * 10 + 9) (by omega)
                      have f9 := O9.out.frozenAt (j * 10 + 9)
                      have RS := hid (fun u0 u1 u2 u3 u4 u5 u6 u7 u8 u9 => store10 RX.out (i := 6) rfl (j * 10) u0 u1 u2 u3 u4 u5 u6 u7 u8 u9)
                      go_wp2
                      go_roundw
                      case rel => exact ⟨j + 1, _, by go_num, by omega, RS.out _ _ _ _ _ _ _ _ _ _⟩
                      case measure => first | (simp [intOf]; done) | (simp [intOf]; omega)
                    · have hj1 : ¬ ((j : Int) < (m : Int)) := by omega
                      go_wp2_with fail
                      go_loopw [9, 11, 13, 15, 128] (fun x1 x2 x3 x4 u wr => ∃ (k : Nat) (va vc vp vx : Value) (ya yc yp yx : List Value), x1 = va ∧ x2 = vc ∧ x3 = vp ∧ x4 = vx ∧ u = .int .i64 k ∧ k ≤ 12 ∧ Rk.Rrs wz wr (RL n m TX LP LR (.slice at' n ct) va (.slice ab n cb) vc vp (.slice aq m cq) vx (.slice ay m cy) (.slice aP m cP) (.slice aR m cR) (n + k) (n + k) (m + k) (m + k) ya yc yp yx)) (fun _ _ _ _ u _ => 12 - (intOf u).toNat)
                      case atStart => exact ⟨0, _, _, _, _, ya, yc, yp, yx, rfl, rfl, rfl, rfl, rfl, Nat.zero_le _, RX.out⟩
                      case round =>
                        obtain ⟨k, va, vc, vp, vx, ya, yc, yp, yx, e1, e2, e3, e4, rfl, hk, hR⟩ := hrel
                        have RG := hid hR
                        clear hR RX
                        have hk0 : (0 : Int) ≤ (k : Int) := by omega
                        obtain ⟨ga, ca2, hva⟩ := own_shape (show wr.ownsRow wz.heap.size 5 1 va (n + k) ya from RG.out.own 1 _ rfl)
                        obtain ⟨gc, cc2, hvc⟩ := own_shape (show wr.ownsRow wz.heap.size 5 1 vc (n + k) yc from RG.out.own 3 _ rfl)
                        obtain ⟨gp, cp2, hvp⟩ := own_shape (show wr.ownsRow wz.heap.size 30 3 vp (m + k) yp from RG.out.own 4 _ rfl)
                        obtain ⟨gx, cx2, hvx⟩ := own_shape (show wr.ownsRow wz.heap.size 53 10 vx (m + k) yx from RG.out.own 6 _ rfl)
                        rw [hva] at e1
                        rw [hvc] at e2
                        rw [hvp] at e3
                        rw [hvx] at e4
                        subst e1 e2 e3 e4
                        subst hva hvc hvp hvx
                        by_cases hlk : k < 12
                        · have hk1 : (k : Int) < 12 := by omega
                          go_wp2_with (at_builtin; refine Rk.append_srv rfl (.tmp 130) (.tmp 131) 61 rfl wz.heap.size 5 i5 (.int .u8 0) 1 1 Try.underlying61 hi5 hz5 hs5 hb5 rfl (by decide) (.slice ga (n + k) ca2) (n + k) ya rfl ((RG.out.own 1 _ rfl).alloc _) (.slice (some ⟨wr.heap.size, 0, none⟩) 1 1) 1 [.int .u8 1] rfl (.inr ⟨⟨wr.heap.size, 0, none⟩, 1, rfl, fun j t hj => lit_cells wr _ 5 j t hj⟩) rfl ?r121 ?r221 ?r321 ?r421 ?_)
                          case r121 => intro u hu; simp at hu; subst hu; rfl
                          case r221 => unfold maxLen; omega
                          case r321 => omega
                          case r421 => have := RG.out.bel.size; simp; omega
                          intro v21 w21 ho21 hg21 hf21
                          have RH1 := hid ((RG.out.alloc (.cells #[.int .u8 1] 5)).grow (i := 1) rfl hg21 ho21 (by rcases hf21 with e | ⟨q, e, hq⟩; exact .inl e; exact .inr ⟨q, e, by simpa using hq⟩))
                          clear ho21 hg21 hf21 RG
                          go_wp2_with (at_builtin; refine Rk.append_srv rfl (.tmp 133) (.tmp 134) 61 rfl wz.heap.size 5 i5 (.int .u8 0) 1 1 Try.underlying61 hi5 hz5 hs5 hb5 rfl (by decide) (.slice gc (n + k) cc2) (n + k) yc rfl ((RH1.out.own 3 _ rfl).alloc _) (.slice (some ⟨w21.heap.size, 0, none⟩) 1 1) 1 [.int .u8 2] rfl (.inr ⟨⟨w21.heap.size, 0, none⟩, 1, rfl, fun j t hj => lit_cells w21 _ 5 j t hj⟩) rfl ?r122 ?r222 ?r322 ?r422 ?_)
                          case r122 => intro u hu; simp at hu; subst hu; rfl
                          case r222 => unfold maxLen; omega
                          case r322 => omega
                          case r422 => have := RH1.out.bel.size; simp; omega
                          intro v22 w22 ho22 hg22 hf22
                          have RH2 := hid ((RH1.out.alloc (.cells #[.int .u8 2] 5)).grow (i := 3) rfl hg22 ho22 (by rcases hf22 with e | ⟨q, e, hq⟩; exact .inl e; exact .inr ⟨q, e, by simpa using hq⟩))
                          clear ho22 hg22 hf22 RH1
                          go_wp2_with (at_builtin; refine Rk.append_srv rfl (.tmp 136) (.tmp 138) 74 rfl wz.heap.size 30 i30 (.agg #[.int .i64 0, .int .i64 0, .int .i64 0]) 3 24 Try.underlying74 hi30 hz30 hs30 hb30 rfl (by decide) (.slice gp (m + k) cp2) (m + k) yp rfl ((RH2.out.own 4 _ rfl).alloc _) (.slice (some ⟨w22.heap.size, 0, none⟩) 1 1) 1 [.int .i64 8, .int .i64 0, .int .i64 0] rfl (.inr ⟨⟨w22.heap.size, 0, none⟩, 1, rfl, fun j t hj => lit_cells w22 _ 30 j t hj⟩) rfl ?r123 ?r223 ?r323 ?r423 ?_)
                          case r123 => intro u hu; simp at hu; rcases hu with rfl | rfl <;> rfl
                          case r223 => unfold maxLen; omega
                          case r323 => omega
                          case r423 => have := RH2.out.bel.size; simp; omega
                          intro v23 w23 ho23 hg23 hf23
                          have RH3 := hid ((RH2.out.alloc (.cells #[.int .i64 8, .int .i64 0, .int .i64 0] 30)).grow (i := 4) rfl hg23 ho23 (by rcases hf23 with e | ⟨q, e, hq⟩; exact .inl e; exact .inr ⟨q, e, by simpa using hq⟩))
                          clear ho23 hg23 hf23 RH2
                          go_wp2_with (at_builtin; refine Rk.append_srv rfl (.tmp 140) (.tmp 142) 50 rfl wz.heap.size 53 i53 (.agg #[.int .i64 0, .int .i64 0, .int .i64 0, .int .i64 0, .bool false, .bool false, .bool false, .int .i64 0, .int .i64 0, .int .i64 0]) 10 64 Try.underlying50 hi53 hz53 hs53 hb53 rfl (by decide) (.slice gx (m + k) cx2) (m + k) yx rfl ((RH3.out.own 6 _ rfl).alloc _) (.slice (some ⟨w23.heap.size, 0, none⟩) 1 1) 1 [.int .i64 0, .int .i64 0, .int .i64 0, .int .i64 0, .bool false, .bool false, .bool false, .int .i64 (-8), .int .i64 0, .int .i64 0] rfl (.inr ⟨⟨w23.heap.size, 0, none⟩, 1, rfl, fun j t hj => lit_cells w23 _ 53 j t hj⟩) rfl ?r124 ?r224 ?r324 ?r424 ?_)
                          case r124 => intro u hu; simp at hu; rcases hu with rfl | rfl | rfl | rfl <;> rfl
                          case r224 => unfold maxLen; omega
                          case r324 => omega
                          case r424 => have := RH3.out.bel.size; simp; omega
                          intro v24 w24 ho24 hg24 hf24
                          have RH4 := hid ((RH3.out.alloc (.cells #[.int .i64 0, .int .i64 0, .int .i64 0, .int .i64 0, .bool false, .bool false, .bool false, .int .i64 (-8), .int .i64 0, .int .i64 0] 53)).grow (i := 6) rfl hg24 ho24 (by rcases hf24 with e | ⟨q, e, hq⟩; exact .inl e; exact .inr ⟨q, e, by simpa using hq⟩))
                          clear ho24 hg24 hf24 RH3
                          go_wp2
                          go_roundw
                          case rel => exact ⟨k + 1, _, _, _, _, _, _, _, _, rfl, rfl, rfl, rfl, by go_num, by omega, RH4.out⟩
                          case measure => first | (simp [intOf]; done) | (simp [intOf]; omega)
                        · have hk1 : ¬ ((k : Int) < 12) := by omega
                          obtain rfl : k = 12 := by omega
                          have hsum : ¬ ((n : Int) + 12 + ((n : Int) + 12) + ((m : Int) + 12) + ((m : Int) + 12) < 48) := by omega
                          have Ot := hid (show wr.ownsRow wz.heap.size 5 1 (.slice at' n ct) n (Ab.bv TX) from RG.out.own 0 _ rfl)
                          have Ob := hid (show wr.ownsRow wz.heap.size 5 1 (.slice ab n cb) n (Ab.bv TX) from RG.out.own 2 _ rfl)
                          have Oq := hid (show wr.ownsRow wz.heap.size 30 3 (.slice aq m cq) m (spcs LP) from RG.out.own 5 _ rfl)
                          have Oy := hid (show wr.ownsRow wz.heap.size 53 10 (.slice ay m cy) m (rcells LR) from RG.out.own 7 _ rfl)
                          have OP := hid (show wr.ownsRow wz.heap.size 30 3 (.slice aP m cP) m (spcs LP) from RG.out.own 8 _ rfl)
                          have OR := hid (show wr.ownsRow wz.heap.size 53 10 (.slice aR m cR) m (rcells LR) from RG.out.own 9 _ rfl)
                          have BG := hid RG.out.bel
                          clear RG
                          have RD := hid (fun (W : World) (v : Value) (h : W.ownsRow wz.heap.size 5 1 v n (Ab.bv TX)) => (show Ab.Rd W v TX from Ab.own_rd (by rw [HNN.out]; exact h)))
                          go_wp2_with fail
                          refine (same_yes _ _ TX _ (RD.out _ _ Ob.out) (RD.out _ _ Ot.out)).mono ?_
                          rintro e9 w31 ⟨rfl, hb31⟩
                          have B31 := hid hb31
                          clear hb31
                          go_wp2_with fail
                          refine (sameSpans_any aq cq aP cP wz.heap.size wz.heap.size m LP LP _ hmm HLP (hid rfl) (hid (Ab.own_keep Oq.out B31.out)) (hid (Ab.own_keep OP.out B31.out))).mono ?_
                          rintro e9 w32 ⟨rfl, hb32⟩
                          have B32 := hid (bT B31.out hb32)
                          clear hb32 B31
                          go_wp2_with fail
                          refine (sameRows4_any ay cy aR cR wz.heap.size wz.heap.size m LR _ hmm HLR (hid (Ab.own_keep Oy.out B32.out)) (hid (Ab.own_keep OR.out B32.out))).mono ?_
                          rintro e9 w33 ⟨rfl, hb33⟩
                          have B33 := hid (bT B32.out hb33)
                          clear hb33 B32
                          go_wp2_with fail
                          refine (HBy.out _ (bT BG.out B33.out)).mono ?_
                          rintro e9 w34 ⟨a34, c34, rfl, hO34, hb34⟩
                          have R34 := hid (show Ab.Rd w34 (.slice a34 n c34) TX from Ab.own_rd (by rw [HNN.out]; exact hO34))
                          have B34 := hid (bT B33.out hb34)
                          clear hb34 hO34 B33
                          go_wp2_with fail
                          refine (same_yes _ _ TX _ R34.out ((RD.out _ _ Ot.out).keep B34.out)).mono ?_
                          rintro e9 w35 ⟨rfl, hb35⟩
                          have B35 := hid (bT B34.out hb35)
                          clear hb35 B34 R34
                          go_wp2_with fail
                          refine (HPc.out _ (bT BG.out B35.out)).mono ?_
                          rintro e9 w36 ⟨a36, c36, rfl, hO36, hb36⟩
                          have O36 := hid hO36
                          have B36 := hid (bT B35.out hb36)
                          clear hO36 hb36
                          go_wp2_with fail
                          refine (sameSpans_any a36 c36 aP cP w35.heap.size wz.heap.size m LP LP _ hmm HLP (hid rfl) O36 (hid (Ab.own_keep OP.out B36.out))).mono ?_
                          rintro e9 w37 ⟨rfl, hb37⟩
                          have B37 := hid (bT B36.out hb37)
                          clear hb37 B36 O36 B35
                          go_wp2_with fail
                          refine (HRw.out _ (bT BG.out B37.out)).mono ?_
                          rintro e9 w38 ⟨a38, c38, rfl, hO38, hb38⟩
                          have O38 := hid hO38
                          have B38 := hid (bT B37.out hb38)
                          clear hO38 hb38
                          go_wp2_with fail
                          refine (sameRows4_any a38 c38 aR cR w37.heap.size wz.heap.size m LR _ hmm HLR O38 (hid (Ab.own_keep OR.out B38.out))).mono ?_
                          rintro e9 w39 ⟨rfl, hb39⟩
                          have B39 := hid (bT B38.out hb39)
                          clear hb39 B38 O38 B37
                          go_wp2_with fail
                          refine (HRw.out _ (bT BG.out B39.out)).mono ?_
                          rintro e9 w40 ⟨a40, c40, rfl, hO40, hb40⟩
                          have K40 := hid (Check_any LR (.slice a40 m c40) w40 (by rw [HLR.out]; exact hmm) (own_rdr hO40))
                          have B40 := hid (bT B39.out hb40)
                          clear hO40 hb40 B39
                          rw [HCK.out, if_pos rfl] at K40
                          go_wp2_with fail
                          refine K40.out.mono ?_
                          rintro e9 w41 ⟨rfl, hb41⟩
                          have B41 := hid (bT B40.out hb41)
                          clear hb41 B40
                          go_wp2
                          go_ret
                          exact ⟨rfl, bT BW.out (bT BG.out B41.out)⟩
end Go.Proofs.Ytpifjghhlcjedaa

namespace Go.Proofs.Ytpifjghhlcjedaa.fresh
open Go.ChangeShapes Go.WideShapes Go.ChangeAt Go.RowKit Go.Deep Go.Joins

theorem own : ownKnob Try.prog.godebug = none := by kernel_rfl
theorem laidOut : laidOutB Try.prog = true := by kernel_rfl
theorem cells5 : Try.prog.cellsOf 5 = 1 := by kernel_rfl

/-- numbers that are bytes -/
def by8 (zs : List Int) : List UInt8 := zs.map fun z => UInt8.ofNat z.toNat
theorem by8_length (zs : List Int) : (by8 zs).length = zs.length := by simp [by8]
theorem rd_ints {W : World} {a : Addr} {len cap : Nat} {zs : List Int} (hl : len ≤ zs.length) (hc : ∀ i, i < zs.length → W.cell? (a.add i) = some (.int .u8 (zs.getD i 0))) (hw : ∀ n ∈ zs, (Lit.int .u8 n).wf = true) :
    Ab.Rd W (.slice (some a) (by8 (zs.take len)).length cap) (by8 (zs.take len)) := by
  refine .inr ⟨a, cap, rfl, fun j u hu => ?_⟩
  have hj : j < len := by
    have h1 := (List.getElem?_eq_some_iff.1 hu).1
    rw [Ab.bv_length, by8_length, List.length_take] at h1
    omega
  have hz : j < zs.length := by omega
  have hb := bounds_u8 (hw zs[j] (List.getElem_mem hz))
  rw [hc j hz, ← hu]
  have e : (UInt8.ofNat zs[j].toNat).toNat = zs[j].toNat := by
    rw [UInt8.toNat_ofNat']; omega
  simp [Ab.bv, by8, hj, hz, e]
  omega

theorem bulk_one {H : Type} (d : DataW H) : 1 ≤ Rows.uptoBulk d := by
  cases d with
  | lit l => cases l <;> simp [Rows.uptoBulk]
  | _ => simp [Rows.uptoBulk]
theorem bulk_len {H : Type} : ∀ l : List (DataW H), l.length ≤ Rows.uptoBulkAll l
  | [] => Nat.zero_le _
  | x :: r => by have h1 := bulk_one x; have h2 := bulk_len r; simp only [Rows.uptoBulkAll, List.length_cons]; omega

/-- a list of bytes -/
theorem open_bytes {H : Type} {enc : TypeId × Value → H} {W : World} {fuel : Nat} {cs : List Value} {x : DataW H × List MemPlace} (h : DataW.trod enc Try.prog W 0 (fun _ => true) true fuel 61 cs = some x) :
    ∃ a0 c0 O, cs = [.slice a0 (List.length O) c0] ∧ Ab.Rd W (.slice a0 (List.length O) c0) O ∧ O.length + 1 ≤ Rows.uptoBulk x.1 := by
  rcases open_ints Try.underlying61 Try.underlying5 cells5 h with ⟨rfl, rfl⟩ | ⟨a, len, cap, zs, rfl, _, hl, hm, hz, rfl, hcell, hwz⟩
  · exact ⟨none, 0, [], rfl, .inl ⟨rfl, rfl⟩, by simpa using bulk_one _⟩
  · simp only [if_true] at hz
    have hlen : (by8 (zs.take len)).length = len := by rw [by8_length, List.length_take]; omega
    have h1 := rd_ints (cap := cap) (len := len) (by omega) hcell hwz
    refine ⟨some a, cap, by8 (zs.take len), by rw [hlen], h1, ?_⟩
    have h2 := bulk_len (lits (H := H) .u8 (zs.take len))
    simp only [lits, List.length_map, List.length_take] at h2
    simp only [Rows.uptoBulk, lits]
    omega


theorem cells3 : Try.prog.cellsOf 3 = 1 := by kernel_rfl
theorem cells61 : Try.prog.cellsOf 61 = 1 := by kernel_rfl
theorem cells65 : Try.prog.cellsOf 65 = 1 := by kernel_rfl
theorem cells69 : Try.prog.cellsOf 69 = 3 := by kernel_rfl
theorem cells67 : Try.prog.cellsOf 67 = 5 := by kernel_rfl
theorem bulk_snoc {H : Type} : ∀ (l : List (DataW H)) (d : DataW H), Rows.uptoBulkAll (l ++ [d]) = Rows.uptoBulkAll l + Rows.uptoBulk d
  | [], d => by simp [Rows.uptoBulkAll]
  | x :: r, d => by have h := bulk_snoc r d; simp only [List.cons_append, Rows.uptoBulkAll, h]; omega
theorem nsum_snoc : ∀ (l : List Ed) (d : Ed), nsum (l ++ [d]) = nsum l + d.new.length
  | [], d => by simp [nsum]
  | x :: r, d => by have h := nsum_snoc r d; simp only [List.cons_append, nsum, h]; omega
theorem qsum_snoc : ∀ (l : List Sq) (d : Sq), qsum (l ++ [d]) = qsum l + qby d
  | [], d => by simp [qsum]
  | x :: r, d => by have h := qsum_snoc r d; simp only [List.cons_append, qsum, h]; omega
theorem qeds_snoc : ∀ (l : List Sq) (d : Sq), qeds (l ++ [d]) = qeds l + qed d
  | [], d => by simp [qeds]
  | x :: r, d => by have h := qeds_snoc r d; simp only [List.cons_append, qeds, h]; omega
theorem nsum_range {H : Type} (A : Nat → Ed) (D : Nat → DataW H) : ∀ n, (∀ t, t < n → (A t).new.length + 1 ≤ Rows.uptoBulk (D t)) → nsum ((List.range n).map A) + n ≤ Rows.uptoBulkAll ((List.range n).map D)
  | 0, _ => by simp [nsum]
  | n + 1, h => by
    have h1 := nsum_range A D n (fun t ht => h t (by omega))
    have h2 := h n (by omega)
    rw [List.range_succ, List.map_append, List.map_cons, List.map_nil, List.map_append, List.map_cons, List.map_nil, bulk_snoc, nsum_snoc]
    omega
theorem qsum_range {H : Type} (A : Nat → Sq) (D : Nat → DataW H) : ∀ n, (∀ t, t < n → qby (A t) + qed (A t) + 1 ≤ Rows.uptoBulk (D t)) → qsum ((List.range n).map A) + qeds ((List.range n).map A) + n ≤ Rows.uptoBulkAll ((List.range n).map D)
  | 0, _ => by simp [qsum, qeds]
  | n + 1, h => by
    have h1 := qsum_range A D n (fun t ht => h t (by omega))
    have h2 := h n (by omega)
    rw [List.range_succ, List.map_append, List.map_cons, List.map_nil, List.map_append, List.map_cons, List.map_nil, bulk_snoc, qsum_snoc, qeds_snoc]
    omega
theorem bulk_mem {H : Type} (D : Nat → DataW H) : ∀ n t, t < n → Rows.uptoBulk (D t) ≤ Rows.uptoBulkAll ((List.range n).map D)
  | 0, t, h => by omega
  | n + 1, t, h => by
    rw [List.range_succ, List.map_append, List.map_cons, List.map_nil, bulk_snoc]
    by_cases e : t < n
    · have := bulk_mem D n t e; omega
    · obtain rfl : t = n := by omega
      omega
theorem range_at {X : Type} {A : Nat → X} {n i : Nat} {q : X} (h : ((List.range n).map A)[i]? = some q) : i < n ∧ q = A i := by
  rw [List.getElem?_map] at h
  cases hr : (List.range n)[i]? with
  | none => rw [hr] at h; cases h
  | some k =>
    rw [hr] at h
    obtain ⟨h1, h2⟩ := List.getElem?_eq_some_iff.1 hr
    simp at h1 h2 h
    exact ⟨h1, by rw [h2]; exact h.symm⟩

section
variable {H : Type} {enc : TypeId × Value → H} {W : World}
set_option maxRecDepth 100000 in
/-- one edit -/
theorem open_edit {fuel : Nat} {cs : List Value} {x : DataW H × List MemPlace} (h : DataW.trod enc Try.prog W 0 (fun _ => true) true fuel 69 cs = some x) :
    ∃ (d : Ed) (a1 : Option Addr) (c1 : Nat) (a2 : Option Addr) (c2 : Nat), cs = [.int .i64 d.at', .slice a1 d.old.length c1, .slice a2 d.new.length c2] ∧ Ab.Rd W (.slice a1 d.old.length c1) d.old ∧ Ab.Rd W (.slice a2 d.new.length c2) d.new ∧ d.old.length + d.new.length + 1 ≤ Rows.uptoBulk x.1 := by
  obtain ⟨xs, n, -, rfl, hl, hxl, hf⟩ := DataW.trod_struct Try.underlying69 h
  rw [cells69] at hl
  match xs, hxl, cs, hl with
  | [y0, y1, y2], _, [v0, v1, v2], _ =>
    have g0 : DataW.trod enc Try.prog W 0 (fun _ => true) true n 3 [v0] = some y0 := by have := hf 0 { name := "At", type := 3, offset := 0, embedded := false, tag := "", pkgPath := "", byteOffset := 0 } rfl; dsimp only at this; rw [cells3] at this; exact this
    have g1 : DataW.trod enc Try.prog W 0 (fun _ => true) true n 61 [v1] = some y1 := by have := hf 1 { name := "Old", type := 61, offset := 1, embedded := false, tag := "", pkgPath := "", byteOffset := 8 } rfl; dsimp only at this; rw [cells61] at this; exact this
    have g2 : DataW.trod enc Try.prog W 0 (fun _ => true) true n 61 [v2] = some y2 := by have := hf 2 { name := "New", type := 61, offset := 2, embedded := false, tag := "", pkgPath := "", byteOffset := 32 } rfl; dsimp only at this; rw [cells61] at this; exact this
    obtain ⟨i, e0, -, -⟩ := DataW.trod_int Try.underlying3 g0
    obtain ⟨a1, c1, old, e1, r1, b1⟩ := open_bytes g1
    obtain ⟨a2, c2, new, e2, r2, b2⟩ := open_bytes g2
    simp only [List.cons.injEq, and_true] at e0 e1 e2
    subst e0 e1 e2
    refine ⟨⟨i, old, new⟩, a1, c1, a2, c2, rfl, r1, r2, ?_⟩
    simp only [List.map_cons, List.map_nil, Rows.uptoBulk, Rows.uptoBulkAll]
    omega
set_option maxRecDepth 100000 in
/-- a list of edits -/
theorem open_edits {fuel : Nat} {cs : List Value} {x : DataW H × List MemPlace} (h : DataW.trod enc Try.prog W 0 (fun _ => true) true fuel 65 cs = some x) :
    ∃ ao c es, cs = [.slice ao (List.length es) c] ∧ Eds W ao es ∧ nsum es + es.length + 1 ≤ Rows.uptoBulk x.1 ∧ ∀ d ∈ es, d.old.length ≤ Rows.uptoBulk x.1 := by
  rcases open_slice Try.underlying65 h with ⟨rfl, rfl⟩ | ⟨a, len, cap, m, n, D, Pl, rfl, _, hl, hm, hmm, hx, hall⟩
  · exact ⟨none, 0, [], rfl, ⟨fun i d hd => by simp at hd⟩, by simpa [nsum] using bulk_one _, fun d hd => by simp at hd⟩
  · simp only [if_true] at hmm
    subst hmm
    subst hx
    have each : ∀ t, t < len → ∃ d : Ed, (∃ g o a1 c1 a2 c2, a = ⟨g, o, none⟩ ∧ W.cell? ⟨g, o + t * 3, none⟩ = some (.int .i64 d.at') ∧ W.cell? ⟨g, o + t * 3 + 1, none⟩ = some (.slice a1 d.old.length c1) ∧ W.cell? ⟨g, o + t * 3 + 2, none⟩ = some (.slice a2 d.new.length c2) ∧ Ab.Rd W (.slice a1 d.old.length c1) d.old ∧ Ab.Rd W (.slice a2 d.new.length c2) d.new) ∧ d.old.length + d.new.length + 1 ≤ Rows.uptoBulk (D t) := by
      intro t ht
      obtain ⟨cs', h1, h2⟩ := hall t (by omega)
      rw [cells69] at h1
      obtain ⟨_, hlen, hcell⟩ := World.cells?_some h1
      obtain ⟨d, a1, c1, a2, c2, rfl, r1, r2, hb⟩ := open_edit h2
      obtain ⟨g, off, spot⟩ := a
      have hspot : spot = none := by
        obtain ⟨cz, z1, z2⟩ := hall 0 (by omega)
        rw [cells69] at z1
        obtain ⟨_, zl, zc⟩ := World.cells?_some z1
        have h0 := zc 0 (by omega)
        rw [List.getElem?_eq_getElem (by omega)] at h0
        simpa [Addr.add] using World.cell?_spot h0
      subst hspot
      have hc : ∀ j, j < 3 → W.cell? ⟨g, off + t * 3 + j, none⟩ = [Value.int .i64 d.at', .slice a1 d.old.length c1, .slice a2 d.new.length c2][j]? := fun j hj => by
        have h0 := hcell j hj
        rw [Go.WideShapes.add_plain, Go.WideShapes.add_plain] at h0
        exact h0
      exact ⟨d, ⟨g, off, a1, c1, a2, c2, rfl, hc 0 (by omega), hc 1 (by omega), hc 2 (by omega), r1, r2⟩, hb⟩
    have _inh : Inhabited Ed := ⟨⟨0, [], []⟩⟩
    obtain ⟨A, hA⟩ := choose_lt each
    have hs := nsum_range A D len (fun t ht => by have := (hA t ht).2; omega)
    refine ⟨some a, m, (List.range len).map A, by simp, ⟨fun i d hd => ?_⟩, ?_, fun d hd => ?_⟩
    · obtain ⟨hi, rfl⟩ := range_at hd
      obtain ⟨g, o, a1, c1, a2, c2, h0, h1, h2, h3, h4, h5⟩ := (hA i hi).1
      exact ⟨g, o, a1, c1, a2, c2, by rw [h0], h1, h2, h3, h4, h5⟩
    · simp only [Rows.uptoBulk, List.length_map, List.length_range]
      omega
    · obtain ⟨t, ht, rfl⟩ := List.mem_map.1 hd
      have ht' : t < len := by simpa using ht
      have h1 := (hA t ht').2
      have h2 := bulk_mem D len t ht'
      simp only [Rows.uptoBulk]
      omega
set_option maxRecDepth 100000 in
/-- one step -/
theorem open_step {fuel : Nat} {cs : List Value} {x : DataW H × List MemPlace} (h : DataW.trod enc Try.prog W 0 (fun _ => true) true fuel 67 cs = some x) :
    ∃ (q : Sq) (ap : Option Addr) (cp : Nat) (ae : Option Addr) (ce : Nat), cs = [.int .i64 q.kind, .int .i64 q.a, .int .i64 q.b, .slice ap q.p.length cp, .slice ae q.es.length ce] ∧ Sqr W q ap ae cp ce ∧ qby q + qed q + 1 ≤ Rows.uptoBulk x.1 ∧ q.es.length ≤ Rows.uptoBulk x.1 ∧ ∀ d ∈ q.es, d.old.length ≤ Rows.uptoBulk x.1 := by
  obtain ⟨xs, n, -, rfl, hl, hxl, hf⟩ := DataW.trod_struct Try.underlying67 h
  rw [cells67] at hl
  match xs, hxl, cs, hl with
  | [y0, y1, y2, y3, y4], _, [v0, v1, v2, v3, v4], _ =>
    have g0 : DataW.trod enc Try.prog W 0 (fun _ => true) true n 3 [v0] = some y0 := by have := hf 0 { name := "Kind", type := 3, offset := 0, embedded := false, tag := "", pkgPath := "", byteOffset := 0 } rfl; dsimp only at this; rw [cells3] at this; exact this
    have g1 : DataW.trod enc Try.prog W 0 (fun _ => true) true n 3 [v1] = some y1 := by have := hf 1 { name := "A", type := 3, offset := 1, embedded := false, tag := "", pkgPath := "", byteOffset := 8 } rfl; dsimp only at this; rw [cells3] at this; exact this
    have g2 : DataW.trod enc Try.prog W 0 (fun _ => true) true n 3 [v2] = some y2 := by have := hf 2 { name := "B", type := 3, offset := 2, embedded := false, tag := "", pkgPath := "", byteOffset := 16 } rfl; dsimp only at this; rw [cells3] at this; exact this
    have g3 : DataW.trod enc Try.prog W 0 (fun _ => true) true n 61 [v3] = some y3 := by have := hf 3 { name := "P", type := 61, offset := 3, embedded := false, tag := "", pkgPath := "", byteOffset := 24 } rfl; dsimp only at this; rw [cells61] at this; exact this
    have g4 : DataW.trod enc Try.prog W 0 (fun _ => true) true n 65 [v4] = some y4 := by have := hf 4 { name := "Edits", type := 65, offset := 4, embedded := false, tag := "", pkgPath := "", byteOffset := 48 } rfl; dsimp only at this; rw [cells65] at this; exact this
    obtain ⟨k, e0, -, -⟩ := DataW.trod_int Try.underlying3 g0
    obtain ⟨a, e1, -, -⟩ := DataW.trod_int Try.underlying3 g1
    obtain ⟨b, e2, -, -⟩ := DataW.trod_int Try.underlying3 g2
    obtain ⟨ap, cp, p, e3, r3, b3⟩ := open_bytes g3
    obtain ⟨ae, ce, es, e4, r4, b4, o4⟩ := open_edits g4
    have b0 := bulk_one y0.1
    simp only [List.cons.injEq, and_true] at e0 e1 e2 e3 e4
    subst e0 e1 e2 e3 e4
    refine ⟨⟨k, a, b, p, es⟩, ap, cp, ae, ce, rfl, ⟨r3, r4⟩, ?_, ?_, fun d hd => ?_⟩
    · simp only [List.map_cons, List.map_nil, Rows.uptoBulk, Rows.uptoBulkAll, qby, qed]
      omega
    · simp only [List.map_cons, List.map_nil, Rows.uptoBulk, Rows.uptoBulkAll]
      omega
    · have := o4 d hd
      simp only [List.map_cons, List.map_nil, Rows.uptoBulk, Rows.uptoBulkAll]
      omega
set_option maxRecDepth 100000 in
/-- a script -/
theorem open_steps {v : Value} {d : DataW H} {p : List MemPlace} (h : DataW.Trod enc Try.prog W 0 (fun _ => true) true 62 v d p) (hv : ∃ a len cap, v = .slice a len cap) (hk : Rows.uptoBulk d ≤ 1048576) :
    ∃ as' c qs, v = .slice as' (List.length qs) c ∧ Scs W as' qs ∧ qsum qs + qeds qs + qs.length + 1 ≤ Rows.uptoBulk d := by
  obtain ⟨a, len, cap, rfl⟩ := hv
  obtain ⟨fuel, hf⟩ := h
  rcases open_slice Try.underlying62 hf with ⟨hcs, hx⟩ | ⟨x, l', c, m, n, D, Pl, hcs, _, hl, hm, hmm, hx, hall⟩
  · simp [Value.cells] at hcs
    obtain ⟨rfl, rfl, rfl⟩ := hcs
    exact ⟨none, 0, [], rfl, ⟨fun i q hq => by simp at hq, fun q hq => by simp at hq⟩, by simpa [qsum, qeds] using bulk_one _⟩
  · simp [Value.cells] at hcs
    obtain ⟨rfl, rfl, rfl⟩ := hcs
    simp only [if_true] at hmm
    subst hmm
    simp only [Prod.mk.injEq] at hx
    obtain ⟨rfl, -⟩ := hx
    have each : ∀ t, t < len → ∃ q : Sq, (∃ g o ap cp ae ce, x = ⟨g, o, none⟩ ∧ W.cell? ⟨g, o + t * 5, none⟩ = some (.int .i64 q.kind) ∧ W.cell? ⟨g, o + t * 5 + 1, none⟩ = some (.int .i64 q.a) ∧ W.cell? ⟨g, o + t * 5 + 2, none⟩ = some (.int .i64 q.b) ∧ W.cell? ⟨g, o + t * 5 + 3, none⟩ = some (.slice ap q.p.length cp) ∧ W.cell? ⟨g, o + t * 5 + 4, none⟩ = some (.slice ae q.es.length ce) ∧ Sqr W q ap ae cp ce) ∧ qby q + qed q + 1 ≤ Rows.uptoBulk (D t) ∧ q.es.length ≤ Rows.uptoBulk (D t) ∧ ∀ d ∈ q.es, d.old.length ≤ Rows.uptoBulk (D t) := by
      intro t ht
      obtain ⟨cs', h1, h2⟩ := hall t (by omega)
      rw [cells67] at h1
      obtain ⟨_, hlen, hcell⟩ := World.cells?_some h1
      obtain ⟨q, ap, cp, ae, ce, rfl, r1, hb⟩ := open_step h2
      obtain ⟨g, off, spot⟩ := x
      have hspot : spot = none := by
        obtain ⟨cz, z1, z2⟩ := hall 0 (by omega)
        rw [cells67] at z1
        obtain ⟨_, zl, zc⟩ := World.cells?_some z1
        have h0 := zc 0 (by omega)
        rw [List.getElem?_eq_getElem (by omega)] at h0
        simpa [Addr.add] using World.cell?_spot h0
      subst hspot
      have hc : ∀ j, j < 5 → W.cell? ⟨g, off + t * 5 + j, none⟩ = [Value.int .i64 q.kind, .int .i64 q.a, .int .i64 q.b, .slice ap q.p.length cp, .slice ae q.es.length ce][j]? := fun j hj => by
        have h0 := hcell j hj
        rw [Go.WideShapes.add_plain, Go.WideShapes.add_plain] at h0
        exact h0
      exact ⟨q, ⟨g, off, ap, cp, ae, ce, rfl, hc 0 (by omega), hc 1 (by omega), hc 2 (by omega), hc 3 (by omega), hc 4 (by omega), r1⟩, hb⟩
    have _inh : Inhabited Sq := ⟨⟨0, 0, 0, [], []⟩⟩
    obtain ⟨A, hA⟩ := choose_lt each
    have hs := qsum_range A D len (fun t ht => (hA t ht).2.1)
    simp only [Rows.uptoBulk] at hk
    refine ⟨some x, m, (List.range len).map A, by simp, ⟨fun i q hq => ?_, fun q hq => ?_⟩, ?_⟩
    · obtain ⟨hi, rfl⟩ := range_at hq
      obtain ⟨g, o, ap, cp, ae, ce, h0, h1, h2, h3, h4, h5, h6⟩ := (hA i hi).1
      exact ⟨g, o, ap, cp, ae, ce, by rw [h0], h1, h2, h3, h4, h5, h6⟩
    · obtain ⟨t, ht, rfl⟩ := List.mem_map.1 hq
      have ht' : t < len := by simpa using ht
      have h2 := bulk_mem D len t ht'
      exact ⟨by have := (hA t ht').2.2.1; omega, fun d hd => by have := (hA t ht').2.2.2 d hd; omega⟩
    · simp only [Rows.uptoBulk, List.length_map, List.length_range]
      omega
end

set_option maxRecDepth 100000 in
set_option maxHeartbeats 1000000 in
theorem lifted (os : Os) (started : os.Started) (H : Type) (enc : TypeId × Value → H) (F : Stop.Interp) :
    ReturnsInHanded {} Try.checked os 7 .any ((Rows.OpenSpec.upto Rows.sheetFreshSpec).pre6 enc Try.prog Try.f7 Rows.sheetFreshUptoRow.domain false) (((Rows.OpenSpec.upto Rows.sheetFreshSpec).at F).post enc Try.prog Try.f7 false true false false) := by
  refine returnsInHanded_of_cond (C := Try.checked) (s := Rows.OpenSpec.upto Rows.sheetFreshSpec) (k := Rows.uptoSmall) rfl own started (by kernel_rfl) Try.func7
    (OpenSpec.witness (enc := enc) (C := Try.checked) (s := Rows.OpenSpec.upto Rows.sheetFreshSpec) (k := Rows.uptoSmall) rfl false ⟨#[], #[.slice none 0 0, .slice none 0 0], []⟩ 8 (by kernel_rfl) (by kernel_rfl) (by kernel_rfl)
      (x := ([.nil, .nil], [], [])) (by kernel_rfl) rfl (by kernel_rfl)) ?_
  intro W base args ds gs before hval0 hW _ hk0 _
  have hval : ∀ (j : Nat) t v, Try.f7.params[j]? = some t → args[j]? = some v → Value.okWide Try.prog W .any base t v := hval0
  have hW' := hW
  obtain ⟨p, q, hA0, hV, rfl, _, _⟩ := hW
  have hA : DataW.TrodAll enc Try.prog W 0 (fun _ => true) true Try.f7.params.toList args.toList ds p := hA0
  rw [Try.params7] at hA hval
  obtain ⟨v0, vs0, d0, ds0, p0, q0, hargs, rfl, rfl, h0, r0⟩ := trodAll_cons hA
  obtain ⟨v1, vs1, d1, ds1, p1, q1, rfl, rfl, rfl, h1, r1⟩ := trodAll_cons r0
  obtain ⟨rfl, rfl, rfl⟩ := trodAll_nil r1
  obtain rfl : args = #[v0, v1] := by cases args; simp_all
  obtain ⟨rfl, rfl⟩ := trodVars_none hV
  have lt0 : ∀ x ∈ p0, x.block < W.heap.size := by obtain ⟨m, hm⟩ := h0; exact DataW.trod_lt m _ _ _ hm
  have lt1 : ∀ x ∈ p1, x.block < W.heap.size := by obtain ⟨m, hm⟩ := h1; exact DataW.trod_lt m _ _ _ hm
  have hk : Rows.uptoBulkAll [d0, d1] ≤ 1048576 := of_decide_eq_true hk0
  simp only [Rows.uptoBulkAll] at hk
  obtain ⟨s0, n0, m0, rfl⟩ := okWide_slice Try.underlying61 (hval 0 61 v0 rfl rfl)
  have i0 := h0
  obtain ⟨f0, hf0⟩ := i0
  obtain ⟨a0, c0, O, e0, hO, bO⟩ := open_bytes hf0
  dsimp only at bO
  simp [Value.cells] at e0
  obtain ⟨rfl, rfl, rfl⟩ := e0
  obtain ⟨as', cs', qs, e1, hS, bS⟩ := open_steps h1 (okWide_slice Try.underlying62 (hval 1 62 v1 rfl rfl)) (by omega)
  subst e1
  clear hA0 hval0 hk0
  refine (sheetFresh_walk s0 m0 O as' cs' qs W (hid hO) (hid hS) (by omega) (by omega) (by omega)).mono fun e W' ⟨he, bel⟩ => ?_
  subst he
  exact ⟨_, rfl, _, _, _, [], _, [], hW', trodAll_mk1 (shut_bool Try.underlying4 _), (trodAll_cons_mk (Below.trod laidOut (by kernel_rfl) (of_decide_eq_true (by kernel_rfl)) h0 bel lt0) (trodAll_cons_mk (Below.trod laidOut (by kernel_rfl) (of_decide_eq_true (by kernel_rfl)) h1 bel lt1) trodAll_mk0)), rfl, bel.frame _, fun h => by cases h⟩

theorem over : Rows.sheetFreshUptoRow.holds Try.pinned (Rows.OpenSpec.upto Rows.sheetFreshSpec) :=
  OpenClaim.holds_of_cond 7 Try.f7 rfl rfl rfl rfl rfl rfl rfl ⟨rfl, rfl, rfl, rfl, rfl⟩ rfl rfl rfl rfl rfl (by kernel_rfl) Try.func7 (by kernel_rfl)
    (of_decide_eq_true (by kernel_rfl)) (by unfold Func.isWrapper; first | (rw [if_pos (by decide +kernel)]; kernel_rfl) | (rw [if_neg (by decide +kernel)]; exact ⟨rfl, rfl⟩))
    (fun os started H enc _ F => lifted os started H enc F)
end Go.Proofs.Ytpifjghhlcjedaa.fresh
namespace Go.Proofs.Ytpifjghhlcjedaa
/-- The given statement, in its second form. -/
theorem sheetFresh_holds : Rows.SheetFreshUptoSaid := fresh.over
end Go.Proofs.Ytpifjghhlcjedaa

