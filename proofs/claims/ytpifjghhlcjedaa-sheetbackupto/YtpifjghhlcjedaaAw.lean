/- The chapter's first example comes out: awake answers true. -/
import Derived.Test.YtpifjghhlcjedaaAwp
import Derived.Test.YtpifjghhlcjedaaReadS
import Derived.Lib.BufferRead
namespace Go.Proofs.Ytpifjghhlcjedaa
open Go.RowKit

theorem PutR.ok {O A l : List UInt8} {t t' : Tr} {off : Int} (h : PutR O A l t off t') (hw : t.whole) (hg : Gds O A t.list) (hl : l ≠ []) (hz : (txt O A t.list).length + l.length ≤ 1048575) (hA : A.length + l.length ≤ 1048576) :
    t'.whole ∧ Gds O (A ++ l) t'.list ∧ txt O (A ++ l) t'.list = (txt O A t.list).take off.toNat ++ (l ++ (txt O A t.list).drop off.toNat) := by
  obtain ⟨T, U, T', q, b, hc, hj, rfl⟩ := h
  obtain ⟨p1, p2, p3, p4, p5, p6⟩ := put_pure hc hj hw hg hl hz hA
  rw [Tr.joinT_list]
  exact ⟨Tr.joinT_whole _ p1 p2, p3, p4⟩

theorem Chg.below_of {w W W' : World} {B sb bb : Nat} {row : Option Nat} (h : Below B w W) (hB : B ≤ W.heap.size) (hc : Chg W W' sb bb row) (h1 : B ≤ sb) (h2 : B ≤ bb) (h3 : ∀ k, row = some k → B ≤ k) : Below B w W' :=
  ⟨hc.os.trans h.os, hc.tape.trans h.tape, hc.output.trans h.output, Nat.le_trans h.size hc.size, fun k hk => by
    rw [hc.block k (by omega) (by omega) (by omega) (fun e => absurd (h3 k e.symm) (by omega))]; exact h.block k hk⟩

set_option maxHeartbeats 1000000 in
theorem Bytes_some (sb bb : Nat) (vo va : Value) (O A : List UInt8) (t : Tr) (a : Option Addr) (e : Int) (base n : Nat) (w : World) (hSh : Hid (Sh w base sb bb vo va O A t a e)) (hw : Hid t.whole) (hg : Hid (Gds O A t.list)) (hz : Hid ((txt O A t.list).length ≤ 1048576)) (hn : Hid ((txt O A t.list).length = n)) (hn0 : Hid (0 < n)) :
    Calls Try.prog 33 #[.pointer (some ⟨sb, 0, none⟩)] w fun e' w' => ∃ ao c, e' = .returned (.slice ao n c) ∧ w'.ownsRow w.heap.size 5 1 (.slice ao n c) n (Ab.bv (txt O A t.list)) ∧ Below w.heap.size w w' := by
  have hb : t.byt = (n : Int) := by rw [byt_list, ← txt_len hg.out, hn.out]
  have HL := hid (fun W (hW : Below w.heap.size w W) => sLen_any (some ⟨sb, 0, none⟩) a e t W (hSh.out.keep hW).sht (hSh.out.tree.keep hW))
  rw [hb] at HL
  have HR := hid (fun W (hW : Below w.heap.size w W) => read_some sb bb vo va O A t a e base 0 n W (hSh.out.keep hW) hw hg hz.out hn0.out (by rw [hn.out]; exact Nat.le_refl _))
  simp only [List.drop_zero, Nat.sub_zero] at HR
  rw [List.take_of_length_le (by rw [hn.out]; exact Nat.le_refl _)] at HR
  clear hb
  go_enter Try.func33, Try.ntmps33
  go_wp2_with (first | (go_at_call 34; refine (HL.out _ (Below.refl _ _)).mono ?_; rintro e9 w9 ⟨rfl, hb9⟩) | (go_at_call 73; refine (HR.out _ hb9).mono ?_; rintro e8 w8 ⟨ao, c, rfl, hr8, hb8⟩; have R8 := hid hr8; clear hr8))
  go_ret
  exact ⟨ao, c, rfl, Ab.own_lower R8.out hb9.size, hb9.trans (hb8.mono hb9.size)⟩

/-- 'string(p)' of bytes that can be read -/
theorem conv_rd {W : World} {v : Value} {l : List UInt8} (h : Ab.Rd W v l) : (convert 61 9 v).run Try.prog W = .ok (.string ⟨l.toArray⟩) W := by
  rcases h with ⟨rfl, rfl⟩ | ⟨a, c, rfl, hc⟩
  · exact Lib.run_convert_nil_bytes W 61 9 5 0 Try.underlying61 Try.underlying5 Try.underlying9
  · exact run_convert_bytes_back W 61 9 5 a c l Try.underlying61 Try.underlying5 Try.underlying9 (fun j hj => hc j _ (Ab.bv_at l j hj))

/-- a literal's bytes, in a new block -/
theorem rd_lit (w : World) (l : List UInt8) (C : Array Value) (m : Nat × Nat) (c : Nat) (hC : C.toList = Ab.bv l) : Ab.Rd (w.alloc (.cells C 5 m)) (.slice (some ⟨w.heap.size, 0, none⟩) l.length c) l := by
  refine .inr ⟨_, c, rfl, fun j u hu => ?_⟩
  have : (⟨w.heap.size, 0, none⟩ : Addr).add j = ⟨w.heap.size, j, none⟩ := by unfold Addr.add; split <;> simp_all
  rw [this, World.cell?_alloc_mark, ← Array.getElem?_toList, hC]; exact hu

set_option maxHeartbeats 4000000 in
theorem awake_any (w : World) : Calls Try.prog 25 #[] w fun e w' => e = .returned (.bool true) ∧ Below w.heap.size w w' := by
  have kc := fun (w : World) (C : Array Value) (n c : Nat) => Lib.run_convert_bytes_const (P := Try.prog) w 61 5 C n c Try.underlying61 Try.underlying5
  go_enter Try.func25, Try.ntmps25
  go_wp2_with fail
  refine (New_any _ 11 hw _ (by decide) (rd_lit w hw _ _ 11 rfl)).mono ?_
  rintro e w1 ⟨sb, bb, vo, a, t, rfl, hS, hN, hb1⟩
  have L1 : Below w.heap.size w w1 := (bAlloc (Below.refl _ _) _).trans (hb1.mono (by simp))
  generalize hbs : (w.alloc _).heap.size = base at hS
  have hlo : w.heap.size ≤ base := by rw [← hbs]; simp
  have HS := hid hS
  obtain ⟨o1, o2, o3, o4⟩ := hN.ok (by decide)
  have l0 := hid (hw_new hN)
  have O1 := hid o1
  have O2 := hid o2
  have O3 := hid o3
  clear hb1 hS hN o1 o2 o3 o4 hbs
  go_wp2_with fail
  refine (Insert_some sb bb vo (.slice none 0 0) hw [] t a 0 base ⟨w1.heap.size, 0, none⟩ 1 [44] 5 _ (hid (HS.out.keep (bAlloc (Below.refl _ _) _))) O1 O2 (hid (by rw [O3.out]; decide)) (hid (by decide)) (hid (rd_lit w1 [44] _ _ 1 rfl)) rfl (by decide) (by rw [byt_list, l0.out]; decide) (by decide)).mono ?_
  rintro e w2 ⟨rfl, w1', hb1', a2, va2, t2, hput, hS2, hc2, hown2⟩
  have L1' := (bAlloc L1 (.cells #[.int .u8 44] 5 (1, 2))).trans (hb1'.mono (bAlloc L1 _).size)
  have L2 : Below w.heap.size w w2 := Chg.below_of L1' L1'.size hc2 (Nat.le_trans hlo hS2.lo) (Nat.le_trans hlo hS2.buf.lo) (fun k hk => by cases hk)
  obtain ⟨p1, p2, p3⟩ := hput.ok O1.out O2.out (by simp) (by rw [O3.out]; decide) (by decide)
  obtain ⟨pa, pc, q1, q2, q3⟩ := hw_one l0.out hput
  rw [O3.out] at p3
  have hrow2 : ∀ k, va2.ownBlock = some k → w.heap.size ≤ k := fun k hk => by
    rcases hown2 with h | ⟨k', h, h'⟩
    · rw [h] at hk; cases hk
    · rw [h] at hk; cases hk; exact Nat.le_trans L1'.size h'
  have S2 := hid hS2
  have P1 := hid p1
  have P2 := hid p2
  have P3 := hid p3
  have Q1 := hid q1
  have HR2 := hid hrow2
  clear hput hS2 hc2 hown2 p1 p2 p3 q1 hrow2 HS O1 O2 O3 l0 hb1' L1 L1'
  go_wp2_with fail
  refine (Insert_some sb bb vo va2 hw ([] ++ [44]) t2 a2 (0 + 1) base ⟨w2.heap.size, 0, none⟩ 1 [33] 6 _ (hid (S2.out.keep (bAlloc (Below.refl _ _) _))) P1 P2 (hid (by rw [P3.out]; decide)) (hid (by decide)) (hid (rd_lit w2 [33] _ _ 1 rfl)) rfl (by decide) (by rw [byt_list, Q1.out]; simp [sB, q2, q3, newP]) (by decide)).mono ?_
  rintro e w3 ⟨rfl, w2', hb2', a3, va3, t3, hput, hS3, hc3, hown3⟩
  have L2' := (bAlloc L2 (.cells #[.int .u8 33] 5 (1, 2))).trans (hb2'.mono (bAlloc L2 _).size)
  have L3 : Below w.heap.size w w3 := Chg.below_of L2' L2'.size hc3 (Nat.le_trans hlo hS3.lo) (Nat.le_trans hlo hS3.buf.lo) HR2.out
  obtain ⟨p1, p2, p3⟩ := hput.ok P1.out P2.out (by simp) (by rw [P3.out]; decide) (by decide)
  have hsz := hw_two Q1.out q2 q3 hput
  rw [P3.out] at p3
  have htx : txt hw (([] ++ [44]) ++ [33]) t3.list = [104, 101, 108, 108, 111, 44, 33, 32, 119, 111, 114, 108, 100] := by rw [p3]; decide
  have S3 := hid hS3
  have R1 := hid p1
  have R2 := hid p2
  have HT := hid htx
  have HZ := hid hsz
  clear hput hS3 hc3 hown3 p1 p2 p3 htx hsz L2' hb2' L2 S2 P1 P2 P3 Q1 HR2
  have HB := hid (fun W (hW : Below w3.heap.size w3 W) => Bytes_some sb bb vo va3 hw (([] ++ [44]) ++ [33]) t3 a3 (0 + 1 + 1) base 13 W (S3.out.keep hW) R1 R2 (hid (by rw [HT.out]; decide)) (hid (by rw [HT.out]; rfl)) (hid (by decide)))
  rw [HT.out] at HB
  have HP := hid (fun W (hW : Below w3.heap.size w3 W) => Pieces_any (some ⟨sb, 0, none⟩) a3 (0 + 1 + 1) t3 W (S3.out.keep hW).sht (S3.out.tree.keep hW) (by rw [HZ.out]; decide))
  rw [HZ.out] at HP
  have HE := hid (fun W (hW : Below w3.heap.size w3 W) => edits_any (some ⟨sb, 0, none⟩) a3 (0 + 1 + 1) W (S3.out.keep hW).sht)
  have HW := hid (fun W (hW : Below w3.heap.size w3 W) => sRows_any (some ⟨sb, 0, none⟩) a3 (0 + 1 + 1) t3 W (S3.out.keep hW).sht (S3.out.tree.keep hW) (show t3.size ≤ 2097152 by rw [HZ.out]; decide))
  rw [HZ.out] at HW
  go_wp2_with (first
    | (go_at_call 33; refine (HB.out _ (Below.refl _ _)).mono ?_; rintro e w4 ⟨ao, c, rfl, hr4, hb4⟩; have cv := conv_rd (Ab.own_rd (l := [104, 101, 108, 108, 111, 44, 33, 32, 119, 111, 114, 108, 100]) hr4); clear hr4)
    | (go_at_call 31; refine (HP.out _ hb4).mono ?_; rintro e w5 ⟨ao5, c5, rfl, hr5, hb5⟩; have hb5' := hb4.trans (hb5.mono hb4.size); clear hr5 cv)
    | (go_at_call 38; refine (HE.out _ hb5').mono ?_; rintro e w6 ⟨rfl, hb6⟩; have hb6' := hb5'.trans (hb6.mono hb5'.size))
    | (go_at_call 30; refine (HW.out _ hb6').mono ?_; rintro e w7 ⟨ao7, c7, rfl, hr7, hb7⟩; have hb7' := hb6'.trans (hb7.mono hb6'.size); clear hr7))
  go_ret
  exact ⟨rfl, L3.trans (hb7'.mono L3.size)⟩

end Go.Proofs.Ytpifjghhlcjedaa
