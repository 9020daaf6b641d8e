/- Rpt9, Lno, Bla, Exc, Tk0, Bys, Op2 -/
import Derived.Test.YtppefcnopkmhbaaGreatDoorPs05
import Derived.Test.YtppefcnopkmhbaaGreatDoorPs03
import Derived.Lib.MakeNoZero
import Derived.Laws.Bits64b
import Derived.Test.YtppefcnopkmhbaaGreatDoorPs01
namespace Go.Proofs.YtppefcnopkmhbaaGreatDoor
open Go.RowKit

set_option maxRecDepth 8000
theorem low32 (a : Nat) (ha : a ≤ 65536) : bits .and .u64 (a : Int) 4294967295 = (a : Int) := by
  have h := bits_and_u64_nat a 4294967295 (by omega) (by omega)
  have e : a &&& 4294967295 = a % 4294967296 := Nat.and_two_pow_sub_one_eq_mod a 32
  rw [e, Nat.mod_eq_of_lt (by omega)] at h
  exact h
theorem high32 (a : Nat) (ha : a ≤ 65536) : (a : Int) / 4294967296 = 0 := by omega
set_option maxHeartbeats 1000000 in
theorem mul64_small (x y p : Nat) (hx : x ≤ 65536) (hy : y ≤ 65536) (hp : (x : Int) * (y : Int) = (p : Int)) (hb : p ≤ 65536) (w : World) :
    Calls Tryz.prog 113 #[.int .u64 (x : Int), .int .u64 (y : Int)] w fun e w' => e = .returned (.tuple #[.int .u64 0, .int .u64 (p : Int)]) ∧ w' = w := by
  have h1 := low32 x hx
  have h2 := low32 y hy
  have h3 := high32 x hx
  have h4 := high32 y hy
  have h5 := high32 p hb
  have h6 : IntKind.u64.wrap (p : Int) = (p : Int) := by rw [IntKind.wrap_u64]; omega
  have h7 : bits .and .u64 0 4294967295 = 0 := low32 0 (by omega)
  go_enter Tryz.func113, Tryz.ntmps113
  go_wp2
  go_ret2
  exact ⟨rfl, rfl⟩
theorem mul_small (x y p : Nat) (hx : x ≤ 65536) (hy : y ≤ 65536) (hp : (x : Int) * (y : Int) = (p : Int)) (hb : p ≤ 65536) (w : World) :
    Calls Tryz.prog 80 #[.int .u64 (x : Int), .int .u64 (y : Int)] w fun e w' => e = .returned (.tuple #[.int .u64 0, .int .u64 (p : Int)]) ∧ w' = w := by
  have C := Hid.mk' (mul64_small x y p hx hy hp hb w)
  clear hp
  go_enter Tryz.func80, Tryz.ntmps80
  go_wp2_with (first | (go_at_call 113; refine C.out.mono ?_; rintro e w' ⟨rfl, hw⟩; subst hw) | fail)
  go_ret2
  exact ⟨rfl, rfl⟩
/-- bytes, so many times -/
def rp (l : List UInt8) : Nat → List UInt8
  | 0 => []
  | k + 1 => l ++ rp l k
theorem rp_len (l : List UInt8) (k : Nat) : (rp l k).length = l.length * k := by
  induction k with
  | zero => rfl
  | succ k ih => show (l ++ rp l k).length = _; rw [List.length_append, ih, Nat.mul_succ]; omega
theorem rp_at (l : List UInt8) (k j : Nat) (h : j < l.length * k) : at8 (rp l k) j = at8 l (j % l.length) := by
  induction k generalizing j with
  | zero => omega
  | succ k ih =>
    show at8 (l ++ rp l k) j = _
    by_cases hj : j < l.length
    · rw [Nat.mod_eq_of_lt hj]
      unfold at8
      rw [List.getD_eq_getElem?_getD, List.getD_eq_getElem?_getD, List.getElem?_append_left hj]
    · have e : at8 (l ++ rp l k) j = at8 (rp l k) (j - l.length) := by
        unfold at8
        rw [List.getD_eq_getElem?_getD, List.getD_eq_getElem?_getD, List.getElem?_append_right (by omega)]
      rw [e, ih _ (by rw [Nat.mul_succ] at h; omega)]
      congr 1
      conv => rhs; rw [show j = j - l.length + l.length by omega]
      rw [Nat.add_mod_right]
theorem rp_nil (l : List UInt8) (k : Nat) (h : l.length * k = 0) : rp l k = [] := List.eq_nil_of_length_eq_zero (by rw [rp_len]; exact h)

/-- the cells of a row hold l over and over, up to p -/
def Ov (l : List UInt8) (X : List Value) (p : Nat) : Prop := ∀ j, j < p → X[j]? = some (.int .u8 ((at8 l (j % l.length)).toNat : Int))
theorem Ov.done {l : List UInt8} {X : List Value} {k p : Nat} (h : Ov l X p) (hp : p = l.length * k) : X.take p = bv (rp l k) := by
  apply List.ext_getElem?
  intro j
  by_cases hj : j < p
  · rw [List.getElem?_take_of_lt hj, h j hj, bv_at _ _ (by rw [rp_len]; omega), rp_at _ _ _ (by omega)]
  · rw [List.getElem?_eq_none (by rw [List.length_take]; omega), List.getElem?_eq_none (by rw [bv_length, rp_len]; omega)]
theorem Ov.first {l : List UInt8} {X : List Value} : Ov l (pat X 0 (bv l)) l.length := by
  intro j hj
  unfold pat
  rw [List.take_zero, List.nil_append, List.getElem?_append_left (by rw [bv_length]; exact hj), bv_at _ _ hj, Nat.mod_eq_of_lt hj]
theorem Ov.more {l : List UInt8} {X : List Value} {p q a : Nat} (h : Ov l X p) (hp : p = l.length * a) (hq : q ≤ p) (hX : p + q ≤ X.length) : Ov l (pat X p (X.take q)) (p + q) := by
  intro j hj
  unfold pat
  have htl : (X.take q).length = q := by rw [List.length_take]; omega
  have htp : (X.take p).length = p := by rw [List.length_take]; omega
  by_cases hjp : j < p
  · rw [List.append_assoc, List.getElem?_append_left (by omega), List.getElem?_take_of_lt hjp, h j hjp]
  · rw [List.getElem?_append_left (by rw [List.length_append]; omega), List.getElem?_append_right (by omega), htp, List.getElem?_take_of_lt (by omega), h (j - p) (by omega)]
    congr 4
    conv => rhs; rw [show j = j - p + l.length * a by omega]
    rw [Nat.add_mul_mod_self_left]
theorem blkX {W : World} {B : Nat} {cs : Array Value} (h : Blk W B 5 cs) : Blk W B 5 cs.toList.toArray := by simpa using h
set_option maxHeartbeats 1000000 in
theorem repeat_nil (ao : Option Addr) (n c k : Nat) (l : List UInt8) (w : World) (HT : Hid (Tx w ao n c l)) (hn : n ≤ 65536) (hk : k ≤ 9999) (h0 : n * k = 0) :
    Calls Tryz.prog 48 #[.slice ao n c, .int .i64 (k : Int)] w fun e w' => WbP (rp l k) w e w' := by
  have HR := Hid.mk' (rp_nil l k (by rw [HT.out.len]; exact h0))
  have hfin : ∀ W : World, W = w.alloc (.cells #[] 5) → WbP (rp l k) w (.returned (.slice (some ⟨w.heap.size, 0, none⟩) 0 0)) W := fun W hW => by
    subst hW
    refine ⟨_, rfl, ?_, bAlloc (Below.refl _ _) _⟩
    rw [HR.out]
    exact .inr ⟨w.heap.size, 0, #[], rfl, Nat.le_refl _, by simp, Blk.new w 5 #[], by simp, by unfold maxLen; omega, by simp, rfl⟩
  by_cases hk0 : k = 0
  · subst hk0
    go_enter Tryz.func48, Tryz.ntmps48
    go_wp2
    go_ret
    exact hfin _ rfl
  · obtain rfl : n = 0 := by rcases Nat.mul_eq_zero.1 h0 with h | h <;> omega
    have C := Hid.mk' (mul_small 0 k 0 (by omega) (by omega) (by omega) (by omega))
    have h1 : ¬ ((k : Int) = 0) := by omega
    have h2 : ¬ ((k : Int) < 0) := by omega
    have hw : IntKind.u64.wrap (k : Int) = (k : Int) := by rw [IntKind.wrap_u64]; omega
    go_enter Tryz.func48, Tryz.ntmps48
    go_wp2_with (first | (go_at_call 80; refine (C.out _).mono ?_; rintro e w' ⟨rfl, hw⟩; subst hw) | fail)
    go_ret
    exact hfin _ rfl

/-- a row[:hi:hi] -/
theorem so_hm (g n c hi : Nat) {z : Int} (hhi : hi ≤ c) (hz : z = (hi : Int)) : ∀ W, (Instr.sliceAt 22 (.slice (some ⟨g, 0, none⟩) n c) none (some (.int .i64 z)) (some (.int .i64 z))).run Tryz.prog W = .ok (.slice (some ⟨g, 0, none⟩) hi hi) W := fun W => by
  subst hz
  rw [run_sliceAt_slice W 22 _ _ _ _ und22, run_slice_hm W 22 _ n c und22 .i64 .i64 (hi : Int) (hi : Int) (by omega) (by omega) (by omega), elem22, size5]
  show Result.ok (sliced (some ⟨g, 0, none⟩) 0 (hi : Int).toNat (hi : Int).toNat 1) W = _
  unfold sliced
  rw [show (hi : Int).toNat = hi by omega]
  split <;> simp [Addr.add]
/-- the chunk that is copied at a time -/
theorem chunk_q (n : Nat) : ∃ d : Nat, Int.tdiv 8192 (n : Int) = (d : Int) ∧ d * n ≤ 8192 ∧ d ≤ 8192 := by
  refine ⟨8192 / n, ?_, Nat.div_mul_le_self _ _, Nat.div_le_self _ _⟩
  rw [show (8192 : Int) = ((8192 : Nat) : Int) from rfl, ← Int.ofNat_tdiv]
set_option maxHeartbeats 8000000 in
theorem repeat_yes (ao : Option Addr) (n c k P : Nat) (l : List UInt8) (w : World) (HT : Hid (Tx w ao n c l)) (hn : 1 ≤ n) (hk : 1 ≤ k) (hk9 : k ≤ 9999) (hP : n * k = P) (hb : P ≤ 65536) :
    Calls Tryz.prog 48 #[.slice ao n c, .int .i64 (k : Int)] w fun e w' => WbP (rp l k) w e w' := by
  have hnP : n ≤ P := by rw [← hP]; exact Nat.le_mul_of_pos_right n hk
  have hll := HT.out.len
  have HLL := Hid.mk' hll
  have HPK := Hid.mk' hP
  have C := Hid.mk' (mul_small n k P (by omega) (by omega) (by rw [← hP]; exact (Int.natCast_mul n k).symm) hb)
  have h1 : ¬ ((k : Int) = 0) := by omega
  have h2 : ¬ ((k : Int) < 0) := by omega
  have hw : IntKind.u64.wrap (k : Int) = (k : Int) := by rw [IntKind.wrap_u64]; omega
  have hwn : IntKind.u64.wrap (n : Int) = (n : Int) := by rw [IntKind.wrap_u64]; omega
  have h3 : ((n : Int) == 0) = false := by simp; omega
  have hwP : IntKind.i64.wrap (P : Int) = (P : Int) := by rw [IntKind.wrap_i64]; omega
  have h4 : ¬ ((9223372036854775807 : Int) < (P : Int)) := by omega
  obtain ⟨cs, hmk, hcs1, hcs2⟩ := Lib.run_makeNoZero (P := Tryz.prog) w #[3] 22 5 Tryz.underlying22 P (by omega)
  have hcm : cs.size ≤ maxLen := hcs2 (by unfold maxLen; omega)
  have HCM := Hid.mk' hcm
  obtain ⟨W1, hW1⟩ : ∃ x, w.drew.drew.alloc (.cells cs 5) = x := ⟨_, rfl⟩
  rw [hW1] at hmk
  have hsz : (w.drew.drew : World).heap.size = w.heap.size := rfl
  have hK1 : Blk W1 w.heap.size 5 cs := by rw [← hW1]; exact Blk.new w.drew.drew 5 cs
  have hL1 : Below w.heap.size w W1 := by rw [← hW1]; exact bAlloc (Below.refl _ _).drew.drew _
  have K1 := Hid.mk' (blkX hK1)
  have L1 := Hid.mk' hL1
  have HMK := Hid.mk' hmk
  have HC1 := Hid.mk' (show P ≤ cs.toList.length by simpa using hcs1)
  obtain ⟨B, hB⟩ : ∃ b, w.heap.size = b := ⟨_, rfl⟩
  have HB := Hid.mk' hB
  have H1 := so_hm B P cs.size P (z := (P : Int)) (by omega) rfl
  rw [hB] at hmk K1 HMK
  have HMK : Hid ((Extern.BytealgMakeNoZero.makeNoZero #[3] #[22] #[.int .i64 (P : Int)]).run Tryz.prog w = .ok (.slice (some ⟨B, 0, none⟩) P cs.size) W1) := hmk
  clear hsz hK1 hL1 hcs2 hW1 hmk hcm hB
  have hq0 := chunk_q n
  clear hP
  go_enter Tryz.func48, Tryz.ntmps48
  go_upto_if 42 with (first | (go_at_call 80; refine (C.out _).mono ?_; rintro e w' ⟨rfl, hw⟩; have hq := hw.symm; subst hq; clear hw) | fail)
  clear h1 h2 hw hwn h4
  go_cut [8] from 43 to 52 (fun x8 wx => (∃ q a : Nat, x8 = .int .i64 (q : Int) ∧ q = n * a ∧ 1 ≤ a ∧ q ≤ 65536) ∧ wx = w)
  case first =>
    obtain ⟨d, hd1, hd2, hd3⟩ := hq0
    have hwd : IntKind.i64.wrap (d : Int) = (d : Int) := by rw [IntKind.wrap_i64]; omega
    have hwm : IntKind.i64.wrap ((d : Int) * (n : Int)) = ((d * n : Nat) : Int) := by rw [IntKind.wrap_i64, show (d : Int) * (n : Int) = ((d * n : Nat) : Int) from (Int.natCast_mul d n).symm]; omega
    by_cases hP8 : (8192 : Int) < (P : Int)
    · by_cases hd0 : d * n = 0
      · have hd0' : (((d * n : Nat) : Int) = 0) := by omega
        rw [hd0'] at hwm
        go_wp2_with fail
        go_meet
        exact ⟨⟨n, 1, rfl, by omega, by omega, by omega⟩, rfl⟩
      · have hd0' : ¬ (((d * n : Nat) : Int) = 0) := by omega
        generalize hm : d * n = m at *
        go_wp2_with fail
        go_meet
        exact ⟨⟨m, d, rfl, by rw [← hm, Nat.mul_comm], by rcases Nat.eq_zero_or_pos d with h | h; rw [h] at hm; omega; exact h, by omega⟩, rfl⟩
    · go_wp2_with fail
      go_meet
      exact ⟨⟨P, k, rfl, HPK.out.symm, hk, hb⟩, rfl⟩
  case rest =>
    obtain ⟨⟨q, a, rfl, hqa, ha1, hq6⟩, rfl⟩ := hcut
    have HQA := Hid.mk' hqa
    clear hqa hq0
    have hws : IntKind.i64.wrap (P : Int) = (P : Int) := by rw [IntKind.wrap_i64]; omega
    obtain ⟨W2, hcp, hK2, hG2⟩ := cp_ty (W := W1) (dc := P) (lo := 0) (dl := P) (k := n) K1.out (.inl rfl) (by have := (HT.out.keep L1.out).srv; exact this) (by rw [bv_length]; exact HLL.out) (fun v hv => bv_one l v (List.mem_of_mem_take hv)) (by omega) (by have := HC1.out; omega)
    have hK2' : Blk W2 B 5 (pat cs.toList 0 (bv l)).toArray := by rwa [List.take_of_length_le (by rw [bv_length]; have := HLL.out; omega)] at hK2
    have hgi : goInt n = .int .i64 (n : Int) := rfl
    rw [hgi] at hcp
    have HCP := Hid.mk' hcp
    have K2 := Hid.mk' hK2'
    have L2 : Hid (Below B wc W2) := by unfold Hid; rw [← HB.out]; exact L1.out.grown hG2 L1.out.size (fun g hg => by injection hg with hg; have := HB.out; omega)
    have hP0 : (P : Int) ≤ (P : Int) := Int.le_refl _
    clear hK2 hK2' hG2 hgi
    go_wp2_with (first | (rw [run_callFunc_extern Tryz.func81 (by kernel_rfl) (by kernel_rfl) (by kernel_rfl) (e := Extern.BytealgMakeNoZero.makeNoZero #[3] #[22]) (by kernel_rfl), HMK.out]; simp only [Result.andThen]; rw [Oper.upon_value]) | (at_builtin; refine wl_copy rfl _ _ rfl _ _ (by rfl) (by rfl) hcp ?_) | fail)
    have HCS := Hid.mk' (show P ≤ cs.size by have := HC1.out; simpa using this)
    have HX0 : Hid ((pat cs.toList 0 (bv l)).length = cs.size) := by unfold Hid; rw [pat_length (by rw [bv_length]; have := HC1.out; have := HLL.out; omega)]; simp
    have HO0 : Hid (Ov l (pat cs.toList 0 (bv l)) n) := by unfold Hid; rw [← HLL.out]; exact Ov.first
    go_loopg [10, 11] P (fun m x10 x11 wx => ∃ (p b : Nat) (X : List Value), x10 = .int .i64 (p : Int) ∧ p ≤ P ∧ p + m = P + n ∧ p = n * b ∧ 1 ≤ b ∧ Hid (Blk wx B 5 X.toArray) ∧ Hid (X.length = cs.size) ∧ Hid (Ov l X p) ∧ Hid (Below B wc wx))
    case atStart => exact ⟨n, 1, _, rfl, hnP, Nat.add_comm _ _, (Nat.mul_one n).symm, Nat.le_refl 1, K2.out, HX0.out, HO0.out, L2.out⟩
    case round =>
      obtain ⟨p, b, X, rfl, hple, hpm, hpb, hb1, KX, HXl, HOv, KB⟩ := hrel
      clear K2 L2 HX0 HO0
      by_cases hpP : p < P
      · have hpP' : (p : Int) < (P : Int) := by omega
        obtain ⟨ch, hch⟩ : ∃ ch, min p q = ch := ⟨_, rfl⟩
        have hmin : min (p : Int) (q : Int) = (ch : Int) := by omega
        obtain ⟨kk, hkk⟩ : ∃ kk, min ch (P - p) = kk := ⟨_, rfl⟩
        have hchP : ch ≤ P := by omega
        obtain ⟨a3, c3, hs3, hp3⟩ := so_l B P P p (z := (p : Int)) (Nat.le_refl _) (by omega) rfl
        have hs4 := so_h B P P ch (z := (ch : Int)) hchP rfl
        have hsrv : Srv wr.drew (.slice (some ⟨B, 0, none⟩) ch P) ch (X.take ch) := .inr ⟨_, _, rfl, fun j t hj => by
          have hj' : j < ch := by have := (List.getElem?_eq_some_iff.1 hj).1; rw [List.length_take] at this; omega
          rw [List.getElem?_take_of_lt hj'] at hj
          rw [add_none, Nat.zero_add]
          exact (show Blk wr.drew B 5 X.toArray from KX.out).cell (by simpa using hj)⟩
        have hone : ∀ v ∈ (X.take ch).take kk, v.oneCell' = true := fun v hv => by
          rw [List.take_take] at hv
          obtain ⟨j, hj⟩ := List.getElem?_of_mem hv
          have hj2 := (List.getElem?_eq_some_iff.1 hj).1
          rw [List.length_take] at hj2
          rw [List.getElem?_take_of_lt (by omega), HOv.out j (by omega)] at hj
          injection hj with hj
          rw [← hj]; rfl
        obtain ⟨W3, hcp, hK3, hG3⟩ := cp_ty (W := wr.drew) (dc := c3) (lo := p) (dl := P - p) (k := kk) (show Blk wr.drew B 5 X.toArray from KX.out) hp3 hsrv (by rw [List.length_take]; have := HXl.out; have := HCS.out; omega) hone hkk.symm (by have := HXl.out; have := HCS.out; omega)
        rw [show goInt kk = .int .i64 (kk : Int) from rfl] at hcp
        rw [List.take_take, show min kk ch = kk by omega] at hK3
        have HCP := Hid.mk' hcp
        have K3 := Hid.mk' hK3
        have HX3 : Hid ((pat X p (X.take kk)).length = cs.size) := by unfold Hid; rw [pat_length (by rw [List.length_take]; have := HXl.out; have := HCS.out; omega)]; exact HXl.out
        have HO3 : Hid (Ov l (pat X p (X.take kk)) (p + kk)) := HOv.out.more (a := b) (by rw [HLL.out]; exact hpb) (by omega) (by have := HXl.out; have := HCS.out; omega)
        have L3 : Hid (Below B wc W3) := (show Below B wc wr.drew from KB.out.drew).grown hG3 (by rw [← HB.out]; exact KB.out.size) (fun g hg => by injection hg with hg; omega)
        have hnb : ∃ b', p + kk = n * b' ∧ 1 ≤ b' := by
          rcases Nat.lt_or_ge ch (P - p) with h | h
          · rcases Nat.lt_or_ge q p with h2 | h2
            · exact ⟨b + a, by rw [Nat.mul_add, ← hpb, ← HQA.out]; omega, by omega⟩
            · exact ⟨b + b, by rw [Nat.mul_add, ← hpb]; omega, by omega⟩
          · exact ⟨k, by rw [HPK.out]; omega, hk⟩
        have hch0 : 1 ≤ kk := by
          have : 1 ≤ p := by rw [hpb]; exact Nat.mul_pos hn hb1
          have : 1 ≤ q := by rw [HQA.out]; exact Nat.mul_pos hn ha1
          omega
        have hw9 : IntKind.i64.wrap ((p : Int) + (kk : Int)) = ((p + kk : Nat) : Int) := by rw [IntKind.wrap_i64]; omega
        clear hcp hK3 hG3 hone hsrv hp3 hpb hch KX HOv KB
        go_upto_region 20 with fail
        go_region_law (refine st_copy rfl _ _ rfl _ _ (by simp [Act.eval, Act.put]) (by simp [Act.eval, Act.put]) HCP.out ?_)
        go_wp2
        go_roundg (P + n - (p + kk))
        case measure => omega
        case rel =>
          obtain ⟨b', hb', hb2⟩ := hnb
          exact ⟨p + kk, b', _, rfl, by omega, by omega, hb', hb2, K3.out, HX3.out, HO3.out, L3.out⟩
      · have hpe : p = P := by omega
        clear hpb
        subst hpe
        have hpP' : ¬ ((p : Int) < (p : Int)) := by omega
        have hfin : WbP (rp l k) wc (.returned (.slice (some ⟨B, 0, none⟩) p p)) wr := by
          have hll9 : (rp l k).length = p := by rw [rp_len, HLL.out, HPK.out]
          refine ⟨_, rfl, .inr ⟨B, p, X.toArray, by rw [hll9], by rw [HB.out]; exact Nat.le_refl _, KX.out.lt, KX.out, by omega, by unfold maxLen; omega, by have := HXl.out; have := HCS.out; simp; omega, ?_⟩, by rw [HB.out]; exact KB.out⟩
          rw [hll9]
          have := HOv.out.done (k := k) (by rw [HLL.out, HPK.out])
          simpa using this
        clear KX HOv KB
        go_wp2
        go_ret
        exact hfin
theorem repeat_any (ao : Option Addr) (n c k : Nat) (l : List UInt8) (w : World) (HT : Hid (Tx w ao n c l)) (hn : n ≤ 65536) (hk : k ≤ 9999) (hb : n * k ≤ 65536) :
    Calls Tryz.prog 48 #[.slice ao n c, .int .i64 (k : Int)] w fun e w' => WbP (rp l k) w e w' := by
  rcases Nat.eq_zero_or_pos (n * k) with h | h
  · exact repeat_nil ao n c k l w HT hn hk h
  · exact repeat_yes ao n c k _ l w HT (Nat.pos_of_mul_pos_right h) (Nat.pos_of_mul_pos_left h) hk rfl hb
end Go.Proofs.YtppefcnopkmhbaaGreatDoor

namespace Go.Proofs.YtppefcnopkmhbaaGreatDoor
open Go.RowKit

set_option maxRecDepth 8000
theorem lof_at {ao : Option Addr} {n c k : Nat} {l : List UInt8} {w : World} (hk : k ≤ n) (HT : Hid (Tx w ao n c l)) :
    Calls Tryz.prog 77 #[.slice ao n c, .int .i64 (k : Int)] w fun e w' => e = .returned (.tuple #[.int .i64 (nl (l.take k) : Int), .int .i64 0]) ∧ Below w.heap.size w w' := by
  have := lof_any ao n c (k : Int) l w HT
  have hb : plB l (k : Int) = true := decide_eq_true (by have := HT.out.len; omega)
  have e : pr (aOf l (k : Int)) = .returned (.tuple #[.int .i64 (nl (l.take k) : Int), .int .i64 0]) := by unfold pr aOf ans; rw [hb]; rfl
  rwa [e] at this
theorem rof_at {ao : Option Addr} {n c k : Nat} {l : List UInt8} {w : World} (hk : k ≤ n) (HT : Hid (Tx w ao n c l)) :
    Calls Tryz.prog 43 #[.slice ao n c, .int .i64 (k : Int)] w fun e w' => e = .returned (.tuple #[.int .i64 (nl (l.take k) : Int), .int .i64 0]) ∧ w' = w := by
  have := refOf_any ao n c (k : Int) l w HT
  have hb : plB l (k : Int) = true := decide_eq_true (by have := HT.out.len; omega)
  have e : pr (aOf l (k : Int)) = .returned (.tuple #[.int .i64 (nl (l.take k) : Int), .int .i64 0]) := by unfold pr aOf ans; rw [hb]; rfl
  rwa [e] at this
/-- the lines of two places -/
def lo (l : List UInt8) (a b : Nat) : Rg := wh l (nl (l.take a) : Nat) (nl (l.take b) : Nat)
/-- the zero range -/
def z27 : Obj := .cells #[.int .i64 0, .int .i64 0, .bool false, .bool false] 28
end Go.Proofs.YtppefcnopkmhbaaGreatDoor

namespace Go.Proofs.YtppefcnopkmhbaaGreatDoor
open Go.RowKit

set_option maxRecDepth 8000
end Go.Proofs.YtppefcnopkmhbaaGreatDoor

namespace Go.Proofs.YtppefcnopkmhbaaGreatDoor
open Go.RowKit

set_option maxRecDepth 8000
/-- a range as a call gives it, without an error -/
def r1 (r : Rg) : Ending := .returned (.agg #[.int .i64 r.F, .int .i64 r.T, .bool r.L, .bool r.D])
end Go.Proofs.YtppefcnopkmhbaaGreatDoor

namespace Go.Proofs.YtppefcnopkmhbaaGreatDoor
open Go.RowKit

set_option maxRecDepth 8000
/-- is it a range that Take takes -/
def rgB (l : List UInt8) (F T : Int) (L D : Bool) : Bool := decide (0 ≤ F ∧ F ≤ T ∧ T ≤ l.length) && (!(L && D) || leB l F)
/-- the bytes of a range from f to t, d: without the first -/
def tkb (l : List UInt8) (f t : Nat) (d : Bool) : List UInt8 := (l.drop (f + d.toNat)).take (t - (f + d.toNat))
/-- does a text lack a line end -/
def lack (b : List UInt8) : Bool := !leB b ((b.length : Int) - 1)
/-- what Take tells -/
def tk (l : List UInt8) (f t : Nat) (L D : Bool) : List UInt8 := if (L && (D || lack (tkb l f t (L && D)))) = true then tkb l f t (L && D) ++ [10] else tkb l f t (L && D)
/-- a register as a call gives it -/
def tr (s L : Bool) (v : Value) (e : Int) : Ending := .returned (.tuple #[.agg #[.bool s, .bool L, v], .int .i64 e])
theorem own_set {W : World} {base e s n k j : Nat} {v u : Value} {xs : List Value} (h : W.ownsRow base e s v n xs) (hk : k < base) : (W.setCell ⟨k, j, none⟩ u).ownsRow base e s v n xs := by
  refine ⟨h.1, ?_⟩
  rcases h.2 with h0 | ⟨g, cap, cur, rfl, hb', hg, rest⟩
  · exact .inl h0
  · exact .inr ⟨g, cap, cur, rfl, hb', by rw [heap_setCell_other _ _ _ _ (show g ≠ k by omega)]; exact hg, rest⟩
theorem bset3' {w W : World} (h : Below w.heap.size w W) (a b c : Value) : Below w.heap.size w (((W.setCell ⟨w.heap.size + 1, 0, none⟩ a).setCell ⟨w.heap.size + 1, 1, none⟩ b).setCell ⟨w.heap.size + 1, 2, none⟩ c) :=
  bset (bset (bset h _ (Nat.le_succ _)) _ (Nat.le_succ _)) _ (Nat.le_succ _)
theorem own_set3 {W : World} {b e s n : Nat} {v x y z : Value} {xs : List Value} (h : W.ownsRow (b + 2) e s v n xs) : (((W.setCell ⟨b + 1, 0, none⟩ x).setCell ⟨b + 1, 1, none⟩ y).setCell ⟨b + 1, 2, none⟩ z).ownsRow b e s v n xs :=
  own_lower (own_set (own_set (own_set h (by omega)) (by omega)) (by omega)) (by omega)
/-- the boxed range and the empty register, behind what is done -/
theorem tk_cells {w W : World} {F T : Int} {L D : Bool} (hb : Below (w.heap.size + 2) ((w.alloc (.cells #[.int .i64 F, .int .i64 T, .bool L, .bool D] 28)).alloc (.cells #[.bool false, .bool false, .slice none 0 0] 33)) W) :
    W.cell? ⟨w.heap.size, 0, none⟩ = some (.int .i64 F) ∧ W.cell? ⟨w.heap.size, 1, none⟩ = some (.int .i64 T) ∧ W.cell? ⟨w.heap.size, 2, none⟩ = some (.bool L) ∧ W.cell? ⟨w.heap.size, 3, none⟩ = some (.bool D) ∧ W.cell? ⟨w.heap.size + 1, 0, none⟩ = some (.bool false) ∧ W.cell? ⟨w.heap.size + 1, 1, none⟩ = some (.bool false) ∧ W.cell? ⟨w.heap.size + 1, 2, none⟩ = some (.slice none 0 0) ∧ W.frozen? ⟨w.heap.size + 1, 0, none⟩ = false ∧ W.frozen? ⟨w.heap.size + 1, 1, none⟩ = false ∧ W.frozen? ⟨w.heap.size + 1, 2, none⟩ = false ∧ w.heap.size + 1 < W.heap.size := by
  have e2 : W.heap[w.heap.size + 1]? = some (.cells #[.bool false, .bool false, .slice none 0 0] 33) := by
    rw [hb.block _ (by omega)]
    have := heap_alloc_new (w.alloc (.cells #[.int .i64 F, .int .i64 T, .bool L, .bool D] 28)) (.cells #[.bool false, .bool false, .slice none 0 0] 33)
    rwa [World.size_alloc] at this
  have e1 : W.heap[w.heap.size]? = some (.cells #[.int .i64 F, .int .i64 T, .bool L, .bool D] 28) := by
    rw [hb.block _ (by omega)]
    have h1 := heap_alloc_new w (.cells #[.int .i64 F, .int .i64 T, .bool L, .bool D] 28)
    have h2 := (bAlloc (Below.refl _ (w.alloc (.cells #[.int .i64 F, .int .i64 T, .bool L, .bool D] 28))) (.cells #[.bool false, .bool false, .slice none 0 0] 33)).block w.heap.size (by simp)
    rw [h2]; exact h1
  have hs := (Array.getElem?_eq_some_iff.1 e2).1
  refine ⟨?_, ?_, ?_, ?_, ?_, ?_, ?_, frozen_of_row _ _ _ _ _ e2, frozen_of_row _ _ _ _ _ e2, frozen_of_row _ _ _ _ _ e2, hs⟩
  · rw [cell_of_row _ _ _ _ _ _ e1]; rfl
  · rw [cell_of_row _ _ _ _ _ _ e1]; rfl
  · rw [cell_of_row _ _ _ _ _ _ e1]; rfl
  · rw [cell_of_row _ _ _ _ _ _ e1]; rfl
  · rw [cell_of_row _ _ _ _ _ _ e2]; rfl
  · rw [cell_of_row _ _ _ _ _ _ e2]; rfl
  · rw [cell_of_row _ _ _ _ _ _ e2]; rfl
end Go.Proofs.YtppefcnopkmhbaaGreatDoor

namespace Go.Proofs.YtppefcnopkmhbaaGreatDoor
open Go.RowKit

set_option maxRecDepth 8000
/-- is there a line end -/
def hasL (l : List UInt8) : Bool := decide (l.findIdx le < l.length)
theorem ten_tx {W : World} {B : Nat} (h : Blk W B 5 #[.int .u8 10]) : Tx W (some ⟨B, 0, none⟩) 1 1 [10] :=
  ⟨rfl, by omega, by omega, (fun e => by cases e), fun a ha j hj => by
    injection ha with ha; subst ha
    obtain rfl : j = 0 := by omega
    exact h.cell rfl⟩
set_option maxHeartbeats 1000000 in
theorem bindex_any (ao : Option Addr) (n c B : Nat) (l : List UInt8) (w : World) (h : Hid (Tx w ao n c l)) (hb : w.cell? ⟨B, 0, none⟩ = some (.int .u8 10)) :
    Calls Tryz.prog 115 #[.slice ao n c, .slice (some ⟨B, 0, none⟩) 1 1] w fun e w' => e = .returned (.int .i64 (ixI l n)) ∧ w' = w := by
  have C := Hid.mk' (index_any ao n c l w h)
  go_enter Tryz.func115, Tryz.ntmps115
  go_wp2_with (first | (go_at_call 134; refine C.out.mono ?_; rintro e w' ⟨rfl, hw⟩; subst hw) | fail)
  go_ret
  exact ⟨rfl, rfl⟩
theorem ixI_has {n : Nat} {l : List UInt8} (hl : l.length = n) : ixI l n = -1 ∧ hasL l = false ∨ (∃ k : Nat, ixI l n = (k : Int)) ∧ hasL l = true := by
  unfold ixI hasL
  rw [hl]
  by_cases h : l.findIdx le < n
  · exact .inr ⟨⟨_, if_pos h⟩, decide_eq_true h⟩
  · exact .inl ⟨if_neg h, decide_eq_false h⟩
set_option maxHeartbeats 1000000 in
theorem contains_any (ao : Option Addr) (n c B : Nat) (l : List UInt8) (w : World) (h : Hid (Tx w ao n c l)) (hb : w.cell? ⟨B, 0, none⟩ = some (.int .u8 10)) :
    Calls Tryz.prog 86 #[.slice ao n c, .slice (some ⟨B, 0, none⟩) 1 1] w fun e w' => e = .returned (.bool (hasL l)) ∧ w' = w := by
  have C := bindex_any ao n c B l w h hb
  rcases ixI_has h.out.len with ⟨e1, e2⟩ | ⟨⟨k, e1⟩, e2⟩
  · rw [e1] at C
    rw [e2]
    have C' := Hid.mk' C
    clear C e1 e2
    go_enter Tryz.func86, Tryz.ntmps86
    go_wp2_with (first | (go_at_call 115; refine C'.out.mono ?_; rintro e w' ⟨rfl, hw⟩; subst hw) | fail)
    go_ret
    exact ⟨rfl, rfl⟩
  · rw [e1] at C
    rw [e2]
    have C' := Hid.mk' C
    have h1 : ((k : Int) != -1) = true := bne_iff_ne.2 (by omega)
    have h2 : ¬ ((k : Int) = -1) := by omega
    clear C e1 e2
    go_enter Tryz.func86, Tryz.ntmps86
    go_wp2_with (first | (go_at_call 115; refine C'.out.mono ?_; rintro e w' ⟨rfl, hw⟩; subst hw) | fail)
    go_ret
    exact ⟨rfl, rfl⟩
theorem lack_eq (l : List UInt8) (h : l ≠ []) : (l.drop (l.length - 1) == [10]) = !lack l := by
  have hl : 0 < l.length := List.length_pos_iff.2 h
  have e : l.drop (l.length - 1) = [at8 l (l.length - 1)] := by
    apply List.ext_getElem?
    intro j
    rw [List.getElem?_drop]
    cases j with
    | zero => rw [Nat.add_zero, List.getElem?_eq_getElem (by omega), at8_eq (by omega)]; rfl
    | succ j => rw [List.getElem?_eq_none (by omega)]; rfl
  rw [e]
  unfold lack leB
  rw [decide_eq_true (show (0 : Int) ≤ (l.length : Int) - 1 ∧ (l.length : Int) - 1 < (l.length : Int) by omega), Bool.true_and, Bool.not_not, show ((l.length : Int) - 1).toNat = l.length - 1 by omega, le_ten]
  simp
theorem lack_nil : lack [] = true := by decide +kernel
set_option maxHeartbeats 1000000 in
theorem suffix_any (ao : Option Addr) (n c B : Nat) (l : List UInt8) (w : World) (h : Hid (Tx w ao n c l)) (hb : Hid (Blk w B 5 #[.int .u8 10])) :
    Calls Tryz.prog 47 #[.slice ao n c, .slice (some ⟨B, 0, none⟩) 1 1] w fun e w' => e = .returned (.bool (!lack l)) ∧ w' = w := by
  have hl := h.out.len
  by_cases h0 : n = 0
  · subst h0
    obtain rfl : l = [] := List.eq_nil_of_length_eq_zero hl
    rw [lack_nil]
    go_enter Tryz.func47, Tryz.ntmps47
    go_wp2
    go_ret
    exact ⟨rfl, rfl⟩
  · have hb9 := h.out.big
    have h1 : (1 : Int) ≤ (n : Int) := by omega
    have hw : IntKind.i64.wrap ((n : Int) - 1) = ((n - 1 : Nat) : Int) := by rw [IntKind.wrap_i64]; omega
    obtain ⟨a3, c3, hs3, hT3⟩ := sl_l h.out (lo := n - 1) (z := ((n - 1 : Nat) : Int)) (by omega) rfl
    have hq : n - (n - 1) = 1 := by omega
    rw [hq] at hs3 hT3
    have C := equal_any a3 1 c3 (l.drop (n - 1)) (some ⟨B, 0, none⟩) 1 1 [10] w hT3 (ten_tx hb.out)
    rw [← hl, lack_eq l (by intro e; rw [e] at hl; simp at hl; omega)] at C
    have C' := Hid.mk' C
    generalize (!lack l) = q at *
    clear C hT3 h0 h
    go_enter Tryz.func47, Tryz.ntmps47
    go_wp2_with (first | (go_at_call 79; refine C'.out.mono ?_; rintro e w' ⟨rfl, hw⟩; subst hw) | fail)
    go_ret
    exact ⟨rfl, rfl⟩
end Go.Proofs.YtppefcnopkmhbaaGreatDoor

namespace Go.Proofs.YtppefcnopkmhbaaGreatDoor
open Go.RowKit

set_option maxRecDepth 8000
/-- one step at a line's head -/
def st8 (p : List UInt8) : Nat := if p.take 1 = [9] then 1 else ld 32 (p.take 8)
theorem st8_le (p : List UInt8) : st8 p ≤ p.length ∧ st8 p ≤ 8 := by
  unfold st8
  split
  · rename_i h
    have := congrArg List.length h
    rw [List.length_take] at this
    simp at this
    omega
  · have := ld_le 32 (p.take 8)
    rw [List.length_take] at this
    omega
/-- so many steps -/
def mgn (p : List UInt8) : Nat → Nat → Nat
  | 0, n => n
  | k + 1, n => if st8 (p.drop n) = 0 then n else mgn p k (n + st8 (p.drop n))
theorem mgn_le (p : List UInt8) : ∀ k n, n ≤ p.length → n ≤ mgn p k n ∧ mgn p k n ≤ p.length
  | 0, n, h => ⟨Nat.le_refl n, h⟩
  | k + 1, n, h => by
    unfold mgn
    split
    · exact ⟨Nat.le_refl n, h⟩
    · have h1 := (st8_le (p.drop n)).1
      rw [List.length_drop] at h1
      have := mgn_le p k (n + st8 (p.drop n)) (by omega)
      omega
theorem nine_tx {W : World} {B : Nat} (h : Blk W B 5 #[.int .u8 9]) : Tx W (some ⟨B, 0, none⟩) 1 1 [9] :=
  ⟨rfl, by omega, by omega, (fun e => by cases e), fun a ha j hj => by
    injection ha with ha; subst ha
    obtain rfl : j = 0 := by omega
    exact h.cell rfl⟩
set_option maxHeartbeats 2000000 in
theorem step_any (ao : Option Addr) (n c : Nat) (l : List UInt8) (w : World) (HT : Hid (Tx w ao n c l)) :
    Calls Tryz.prog 132 #[.slice ao n c] w fun e w' => e = .returned (.int .i64 (st8 l : Int)) ∧ Below w.heap.size w w' := by
  have hl := HT.out.len
  obtain ⟨W1, hW1⟩ : ∃ x, w.alloc (.cells #[.int .u8 9] 5) = x := ⟨_, rfl⟩
  have K1 : Blk W1 w.heap.size 5 #[.int .u8 9] := by rw [← hW1]; exact Blk.new w 5 _
  have L1 : Below w.heap.size w W1 := by rw [← hW1]; exact bAlloc (Below.refl _ _) _
  have HL1 := Hid.mk' L1
  have hT1 := HT.out.keep L1
  have C1 := Hid.mk' (prefix_any ao n c l (some ⟨w.heap.size, 0, none⟩) 1 1 [9] W1 hT1 (nine_tx K1))
  obtain ⟨m, hm⟩ : ∃ m, min 8 n = m := ⟨_, rfl⟩
  obtain ⟨a3, c3, hs3, hT3⟩ := sl_h hT1 (m := m) (by omega)
  have e8 : l.take m = l.take 8 := by
    rw [← hm, ← hl]
    rcases Nat.le_total 8 l.length with h | h
    · rw [Nat.min_eq_left h]
    · rw [Nat.min_eq_right h, List.take_of_length_le h, List.take_of_length_le (Nat.le_refl _)]
  rw [e8] at hT3
  have C2 := Hid.mk' (trimBlank_any a3 m c3 (l.take 8) W1 hT3)
  have hld := ld_le 32 (l.take 8)
  rw [List.length_take] at hld
  have h9 := HT.out.big
  have hmn : min (8 : Int) (n : Int) = (m : Int) := by omega
  have hst : st8 l = if (l.take 1 == [9]) = true then 1 else ld 32 (l.take 8) := by unfold st8; simp
  rw [hst]
  rw [show ([9] : List UInt8).length = 1 from rfl] at C1
  generalize (l.take 1 == [9]) = b at *
  have hw : IntKind.i64.wrap ((m : Int) - ((m - ld 32 (l.take 8) : Nat) : Int)) = (ld 32 (l.take 8) : Int) := by rw [IntKind.wrap_i64]; omega
  generalize ld 32 (l.take 8) = q at *
  cases b with
  | true =>
    clear C2 hT3 hs3 hT1 hld h9 hmn hst hw hm
    go_enter Tryz.func132, Tryz.ntmps132
    go_wp2_with (first | (go_at_call 124; refine C1.out.mono ?_; rintro e w' ⟨rfl, hw⟩; have hq := hw.symm; subst hq; clear hw) | fail)
    go_ret
    exact ⟨rfl, HL1.out⟩
  | false =>
    clear hT3 hT1 hld h9 hst hm
    go_enter Tryz.func132, Tryz.ntmps132
    go_wp2_with (first | (go_at_call 124; refine C1.out.mono ?_; rintro e w' ⟨rfl, hw⟩; have hq := hw.symm; subst hq; clear hw) | (go_at_call 91; refine C2.out.mono ?_; rintro e w' ⟨⟨a4, c4, rfl, -⟩, hw⟩; have hq := hw.symm; subst hq; clear hw) | fail)
    go_ret
    exact ⟨rfl, HL1.out⟩
set_option maxHeartbeats 4000000 in
theorem margin_any (ao : Option Addr) (n c k : Nat) (l : List UInt8) (w : World) (HT : Hid (Tx w ao n c l)) (hk : k ≤ 9999) :
    Calls Tryz.prog 105 #[.slice ao n c, .int .i64 (k : Int)] w fun e w' => e = .returned (.int .i64 (mgn l k 0 : Int)) ∧ Below w.heap.size w w' := by
  have HL := Hid.mk' HT.out.len
  have H9 := Hid.mk' HT.out.big
  go_enter Tryz.func105, Tryz.ntmps105
  go_wp2_with fail
  go_loopg [5, 6, 8] k (fun m x5 x6 x8 wx => ∃ (i q : Nat), x5 = .int .i64 (q : Int) ∧ x8 = .int .i64 (i : Int) ∧ i + m = k ∧ q ≤ n ∧ Hid (mgn l k 0 = mgn l m q) ∧ Hid (Below w.heap.size w wx))
  case atStart => exact ⟨0, 0, rfl, rfl, by omega, by omega, rfl, Below.refl _ _⟩
  case round =>
    obtain ⟨i, q, rfl, rfl, him, hqn, HM, KB⟩ := hrel
    by_cases hg : gk = 0
    · subst hg
      have hik : ¬ ((i : Int) < (k : Int)) := by omega
      have e : mgn l k 0 = q := HM.out
      go_wp2
      go_ret
      exact ⟨by first | rfl | (rw [e]; rfl), KB.out⟩
    · obtain ⟨go, hgo⟩ : ∃ g, gk = g + 1 := ⟨gk - 1, by omega⟩
      subst hgo
      have hik : (i : Int) < (k : Int) := by omega
      obtain ⟨a3, c3, hs3, hT3⟩ := sl_l (HT.out.keep KB.out) (lo := q) (z := (q : Int)) hqn rfl
      have C := Hid.mk' (step_any a3 (n - q) c3 (l.drop q) wr hT3)
      have hs := (st8_le (l.drop q)).1
      rw [List.length_drop, HL.out] at hs
      have hz0 : (0 : Int) ≤ (q : Int) := by omega
      have hz1 : (q : Int) ≤ (n : Int) := by omega
      have HM2 : Hid (mgn l k 0 = if st8 (l.drop q) = 0 then q else mgn l go (q + st8 (l.drop q))) := HM.out
      generalize st8 (l.drop q) = s at *
      clear hT3 HM
      by_cases hs0 : s = 0
      · subst hs0
        have e : mgn l k 0 = q := HM2.out
        go_wp2_with (first | (go_at_call 132; refine C.out.mono ?_; rintro e w' ⟨rfl, hw⟩) | fail)
        go_ret
        exact ⟨by first | rfl | (rw [e]; rfl), bT KB.out hw⟩
      · have e : mgn l k 0 = mgn l go (q + s) := by rw [HM2.out, if_neg hs0]
        have he := Hid.mk' e
        have hs1 : ((s : Int) == 0) = false := by simp; omega
        have h9 := H9.out
        have hw1 : IntKind.i64.wrap ((q : Int) + (s : Int)) = ((q + s : Nat) : Int) := by rw [IntKind.wrap_i64]; omega
        have hw2 : IntKind.i64.wrap ((i : Int) + 1) = ((i + 1 : Nat) : Int) := by rw [IntKind.wrap_i64]; omega
        clear h9 e HM2
        go_wp2_with (first | (go_at_call 132; refine C.out.mono ?_; rintro e w' ⟨rfl, hw⟩) | fail)
        go_roundg go
        case measure => omega
        case rel => exact ⟨i + 1, q + s, by go_num, by go_num, by omega, by omega, he.out, bT KB.out hw⟩
end Go.Proofs.YtppefcnopkmhbaaGreatDoor
