/- slices.Grow of nil. -/
import Derived.Test.YtaakgoojcogbcaaXl
import Derived.Lib.AppendZerosOnto
import Derived.Lib.SliceRun
import Derived.Test.YtaakgoojcogbcaaXc
import Derived.Test.YtaakgoojcogbcaaXg
import Derived.Test.YtaakgoojcogbcaaZAlv
namespace Go.Proofs.Ytaakgoojcogbcaa
open Go.RowKit
theorem infoB : ∃ i, Try.prog.info? 5 = some i ∧ i.zero = some (.int .u8 0) ∧ i.size = 1 ∧ i.bytes = 1 := by
  have := info5
  cases h : Try.prog.info? 5 with
  | none => rw [h] at this; cases this
  | some i => rw [h] at this; simp at this; exact ⟨i, rfl, this.1, this.2.1, this.2.2⟩
/-- a row with room, nothing in it yet -/
def GrP (w : World) (e : Ending) (w' : World) : Prop := ∃ v, e = .returned v ∧ w'.ownsRow w.heap.size 5 1 v 0 [] ∧ Below w.heap.size w w'
set_option maxRecDepth 8000 in
set_option maxHeartbeats 4000000 in
theorem grow_any (n : Nat) (w : World) (h0 : 0 < n) (hn : n ≤ 140737488355328) : Calls Try.prog 74 #[.slice none 0 0, .int .i64 (n : Int)] w fun e w' => GrP w e w' := by
  obtain ⟨i0, hi, hz0, hz1, hz2⟩ := infoB
  have hcap := fun ty => Lib.run_append_grow_zeros (P := Try.prog) w 22 3 ty 5 i0 (.int .u8 0) .i64 .i64 Try.underlying22 Try.underlying3 hi hz0 none 0 0 [] (by rw [hz1]; rfl) n h0 (by rw [hz1]; decide) (by omega) (by omega) (by rw [hz2]; omega) (by rw [hz2, Nat.zero_add, Nat.mul_one, nextslicecap_zero h0]; omega)
  simp only [Nat.zero_add] at hcap
  have hge := grownCap_ge w n 0 5
  have hle := grownCap_le_maxLen w n 0 5 (by unfold maxLen; omega)
  obtain ⟨G, HG⟩ : ∃ G, Hid (grownCap w n 0 5 = G) := ⟨_, rfl⟩
  rw [HG.out] at hcap hge hle
  obtain ⟨CS, HC⟩ : ∃ CS, Hid ((#[] : Array Value) ++ Builtin.zeroCells (Value.int .u8 0).cells n ++ Builtin.zeroCells (Value.int .u8 0).cells (G - n) = CS) := ⟨_, rfl⟩
  have hsz : CS.size = G * 1 := by
    rw [← HC.out]
    simp [Builtin.zeroCells, Value.cells]
    omega
  simp only [HC.out] at hcap
  have hn1 : ¬ ((n : Int) < 0) := by omega
  have hn2 : (0 : Int) < (n : Int) := by omega
  go_enter Try.func74, Try.ntmps74
  go_wp2_with (at_builtin; refine Lib.wpList_append_run _ rfl _ _ _ _ rfl _ _ rfl rfl _ _ (hcap _) ?_)
  go_ret
  refine ⟨_, rfl, ?_, (bAlloc (Below.refl _ _).drew _)⟩
  exact ⟨rfl, .inr ⟨w.heap.size, G, CS, rfl, Nat.le_refl _, heap_alloc_new _ _, Nat.zero_le _, hle, hsz, rfl⟩⟩
end Go.Proofs.Ytaakgoojcogbcaa
/- slices.Concat. -/
namespace Go.Proofs.Ytaakgoojcogbcaa
open Go.RowKit
/-- lists of bytes, the first k together -/
def j3 (lv : Nat → List UInt8) : Nat → List UInt8
  | 0 => []
  | k + 1 => j3 lv k ++ lv k
theorem j3_le (lv : Nat → List UInt8) {k m : Nat} (h : k ≤ m) : (j3 lv k).length ≤ (j3 lv m).length := by
  induction m with
  | zero => have : k = 0 := by omega
            subst this; exact Nat.le_refl _
  | succ m ih =>
    rcases Nat.eq_or_lt_of_le h with e | e
    · subst e; exact Nat.le_refl _
    · have := ih (by omega)
      show _ ≤ (j3 lv m ++ lv m).length
      rw [List.length_append]; omega
theorem j3_len (lv : Nat → List UInt8) (k : Nat) : (j3 lv (k + 1)).length = (j3 lv k).length + (lv k).length := by
  show (j3 lv k ++ lv k).length = _
  rw [List.length_append]
def CcP (l : List UInt8) (w : World) (e : Ending) (w' : World) : Prop := ∃ v, e = .returned v ∧ w'.ownsRow w.heap.size 5 1 v l.length (bv l) ∧ Below w.heap.size w w'
set_option maxRecDepth 8000 in
set_option maxHeartbeats 8000000 in
theorem concat_any (W : World) (B m : Nat) (av : Nat → Option Addr) (cv : Nat → Nat) (lv : Nat → List UInt8) (hm9 : m ≤ 1000) (hpos : 0 < (j3 lv m).length) (hsum : (j3 lv m).length ≤ 140737488355328) (HC : Hid (∀ k, k < m → W.cell? ⟨B, k, none⟩ = some (.slice (av k) (lv k).length (cv k)))) (HX : Hid (∀ k, k < m → Tx W (av k) (lv k).length (cv k) (lv k))) :
    Calls Try.prog 44 #[.slice (some ⟨B, 0, none⟩) m m] W fun e w' => CcP (j3 lv m) W e w' := by
  obtain ⟨i0, hi, hz0, hz1, hz2⟩ := infoB
  go_enter Try.func44, Try.ntmps44
  go_wp2_with fail
  go_loopg [3, 5, 11] m (fun q x3 x5 x11 wx => ∃ k : Nat, x11 = .int .i64 (k : Int) ∧ x3 = .int .i64 ((j3 lv k).length : Int) ∧ k ≤ m ∧ q + k = m ∧ wx = W)
  case atStart => exact ⟨0, rfl, rfl, by omega, by omega, rfl⟩
  case round =>
    obtain ⟨k, rfl, rfl, hk, hm, hw⟩ := hrel
    have hw' := hw.symm
    clear hw
    subst hw'
    by_cases hkm : k < m
    · have hkm' : (k : Int) < (m : Int) := by omega
      have cx := HC.out k hkm
      have h1 := j3_len lv k
      have h2 := j3_le lv (k := k + 1) (m := m) (by omega)
      obtain ⟨S, HS⟩ : ∃ S, Hid ((j3 lv k).length = S) := ⟨_, rfl⟩
      obtain ⟨S', HS'⟩ : ∃ S, Hid ((j3 lv (k + 1)).length = S) := ⟨_, rfl⟩
      obtain ⟨L, HL⟩ : ∃ L, Hid ((lv k).length = L) := ⟨_, rfl⟩
      rw [HS.out, HS'.out, HL.out] at h1
      rw [HS'.out] at h2
      rw [HL.out] at cx
      rw [HS.out]
      have hw1 : IntKind.i64.wrap ((S : Int) + (L : Int)) = (S' : Int) := by rw [IntKind.wrap_i64]; omega
      have hw2 : ¬ ((S' : Int) < 0) := by omega
      have hw3 : IntKind.i64.wrap ((k : Int) + 1) = ((k + 1 : Nat) : Int) := by rw [IntKind.wrap_i64]; omega
      clear h1 h2
      go_wp2
      go_roundg (m - (k + 1))
      case measure => omega
      case rel => exact ⟨k + 1, rfl, by rw [HS'.out], by omega, by omega, rfl⟩
    · have hkm' : ¬ ((k : Int) < (m : Int)) := by omega
      have hkE : k = m := by omega
      subst hkE
      have CG := Hid.mk' (grow_any (j3 lv k).length W hpos hsum)
      go_wp2_with fail
      refine CG.out.mono ?_
      rintro e w1 ⟨v, rfl, hown, hb1⟩
      have O1 := Hid.mk' hown
      have B1 := Hid.mk' hb1
      clear hown hb1 CG
      go_wp2_with fail
      go_loopg [6, 8, 27] k (fun q x6 x8 x27 wx => ∃ i : Nat, x27 = .int .i64 (i : Int) ∧ i ≤ k ∧ q + i = k ∧ Hid (Below W.heap.size W wx) ∧ Hid (wx.ownsRow W.heap.size 5 1 x6 (j3 lv i).length (bv (j3 lv i))))
      case atStart => exact ⟨0, rfl, by omega, by omega, B1.out, O1.out⟩
      case round =>
        clear O1 B1
        obtain ⟨i, rfl, hik, hiq, B1, O1⟩ := hrel
        obtain ⟨a5, c5, e5⟩ := own_shape O1.out
        subst e5
        by_cases hi2 : i < k
        · have hi2' : (i : Int) < (k : Int) := by omega
          have cx := keepC B1.out (HC.out i hi2)
          have X1 := Hid.mk' ((HX.out i hi2).keep B1.out)
          have h1 := j3_len lv i
          have h2 := j3_le lv (k := i + 1) (m := k) (by omega)
          obtain ⟨S, HS⟩ : ∃ S, Hid ((j3 lv i).length = S) := ⟨_, rfl⟩
          obtain ⟨L, HL⟩ : ∃ L, Hid ((lv i).length = L) := ⟨_, rfl⟩
          rw [h1, HS.out, HL.out] at h2
          rw [HL.out] at cx X1
          rw [HS.out] at O1 ⊢
          have hw3 : IntKind.i64.wrap ((i : Int) + 1) = ((i + 1 : Nat) : Int) := by rw [IntKind.wrap_i64]; omega
          go_wp2_with (first | (at_builtin; refine append_srv rfl (.tmp 31) (.tmp 32) 22 rfl W.heap.size 5 i0 (.int .u8 0) 1 1 Try.underlying22 hi hz0 hz1 hz2 rfl (by decide) (.slice a5 S c5) S (bv (j3 lv i)) rfl O1.out (.slice (av i) L (cv i)) L (bv (lv i)) rfl X1.out.srv (by rw [bv_length, HL.out]; omega) (bv_one _) (by unfold maxLen; omega) (by omega) B1.out.size ?_))
          intro v5 w5 hown hgrow _
          have B5 := Hid.mk' (B1.out.grown hgrow B1.out.size (fun k hk => (O1.out.lt k hk).1))
          have O5 : Hid (w5.ownsRow W.heap.size 5 1 v5 (j3 lv (i + 1)).length (bv (j3 lv (i + 1)))) := by
            unfold Hid
            rw [h1, HS.out, HL.out, show bv (j3 lv (i + 1)) = bv (j3 lv i) ++ bv (lv i) from bv_append _ _]
            exact hown
          clear hown hgrow O1 B1 X1 h1 h2
          go_wp2
          go_roundg (k - (i + 1))
          case measure => omega
          case rel => exact ⟨i + 1, rfl, by omega, by omega, B5.out, O5.out⟩
        · have hi2' : ¬ ((i : Int) < (k : Int)) := by omega
          have HE : Hid (i = k) := by unfold Hid; omega
          go_wp2
          go_ret
          exact ⟨_, rfl, by rw [← HE.out]; exact O1.out, B1.out⟩
end Go.Proofs.Ytaakgoojcogbcaa
/- hunt.Under. -/
namespace Go.Proofs.Ytaakgoojcogbcaa
open Go.RowKit
/-- the word's bytes -/
def wlist (t : List UInt8) (s x : Nat) : List UInt8 := (t.drop s).take (x - s)
/-- its pattern -/
def upat (l : List UInt8) : List UInt8 := [92, 60] ++ qt l ++ [92, 62]
/-- what Under answers -/
def UnP (t : List UInt8) (k : Int) (w : World) (e : Ending) (w' : World) : Prop :=
  Below w.heap.size w w' ∧
    ((¬ (0 ≤ k ∧ k ≤ t.length) ∧ e = .returned (.tuple #[.slice none 0 0, .int .i64 2])) ∨
     ((0 ≤ k ∧ k ≤ t.length) ∧ WdN t k.toNat ∧ e = .returned (.tuple #[.slice none 0 0, .int .i64 120])) ∨
     ((0 ≤ k ∧ k ≤ t.length) ∧ ∃ s x, WdS t k.toNat s x ∧ ((256 < (upat (wlist t s x)).length ∧ e = .returned (.tuple #[.slice none 0 0, .int .i64 1])) ∨
       ((upat (wlist t s x)).length ≤ 256 ∧ ∃ v, e = .returned (.tuple #[v, .int .i64 0]) ∧ w'.ownsRow w.heap.size 5 1 v (upat (wlist t s x)).length (bv (upat (wlist t s x)))))))
theorem own_tx {W : World} {base n : Nat} {v : Value} {l : List UInt8} (hn : l.length = n) (hb : n ≤ 140737488355328) (h : W.ownsRow base 5 1 v n (bv l)) : ∃ a c, v = .slice a n c ∧ Tx W a n c l := by
  rcases h.2 with ⟨e, h0⟩ | ⟨g, cap, cur, e, h3, h4, h5, h6, h7, h8⟩
  · subst h0
    exact ⟨none, 0, e, by rw [List.eq_nil_of_length_eq_zero hn]; exact tx_nil W⟩
  · refine ⟨some ⟨g, 0, none⟩, cap, e, hn, h5, hb, (fun h => by cases h), fun a ha j hj => ?_⟩
    have e2 : (⟨g, 0, none⟩ : Addr) = a := by injection ha
    subst e2
    rcases own_srv h with ⟨e3, _⟩ | ⟨ad, c9, e3, hc⟩
    · rw [e] at e3; cases e3
    · rw [e] at e3
      injection e3 with e3 _ _
      injection e3 with e3
      rw [e3]
      exact hc j _ (bv_at l j (by omega))
set_option maxRecDepth 8000 in
set_option maxHeartbeats 8000000 in
theorem under_any (ao : Option Addr) (n c : Nat) (k : Int) (t : List UInt8) (w : World) (hn : n ≤ 70368744177000) (HT : Hid (Tx w ao n c t)) :
    Calls Try.prog 24 #[.slice ao n c, .int .i64 k] w fun e w' => UnP t k w e w' := by
  have hlen := HT.out.len
  have CI := Hid.mk' (hisPlace_any ao n c k w)
  by_cases hp : 0 ≤ k ∧ k ≤ n
  · rw [decide_eq_true hp] at CI
    obtain ⟨k, rfl⟩ : ∃ j : Nat, k = (j : Int) := ⟨k.toNat, by omega⟩
    have CW := Hid.mk' (wordFrom_any ao n c k t w (by omega) HT)
    have HP : Hid (0 ≤ (k : Int) ∧ (k : Int) ≤ t.length) := by unfold Hid; omega
    clear hp
    go_enter Try.func24, Try.ntmps24
    go_wp2_with fail
    refine CI.out.mono ?_
    rintro e w' ⟨rfl, hw⟩
    subst hw
    go_wp2_with fail
    refine CW.out.mono ?_
    rintro e w1 ⟨hb1, hres⟩
    have B1 := Hid.mk' hb1
    clear hb1 CI CW
    rcases hres with ⟨hN, rfl⟩ | ⟨s, x, av, cv, hS, rfl, htx⟩
    · have HN := Hid.mk' hN
      clear hN
      go_wp2
      go_ret2
      exact ⟨B1.out, .inr (.inl ⟨HP.out, by rw [Int.toNat_natCast]; exact HN.out, rfl⟩)⟩
    · have HS := Hid.mk' hS
      have hxs : s < x := by obtain ⟨a, _, _, _, _, h5, h6⟩ := hS.a; omega
      have hxl : x ≤ n := by have := hS.hi; have := en_le (t := t) (s := k) (by have := HP.out; omega); omega
      have HX := Hid.mk' htx
      clear hS htx
      have hne : ¬ (((x - s : Nat) : Int) = 0) := by omega
      have hne' : ((((x - s : Nat) : Int)) == 0) = false := by simpa using hne
      have kc := fun (w : World) (C : Array Value) (n c : Nat) => Lib.run_convert_bytes_const (P := Try.prog) w 22 5 C n c Try.underlying22 Try.underlying5
      obtain ⟨WL, HWL⟩ : ∃ WL, Hid (wlist t s x = WL) := ⟨_, rfl⟩
      have hWL : WL.length = x - s := by rw [← HWL.out]; unfold wlist; rw [List.length_take, List.length_drop]; omega
      have hqt := qt_len WL
      have HX2 : Hid (Tx w1 av (x - s) cv WL) := by rw [← HWL.out]; exact HX.out
      clear HX
      go_wp2_with fail
      refine (quote_any _ av (x - s) cv WL (by omega) (HX2.out.keep (bAlloc (Below.refl _ _) _))).mono ?_
      rintro e w2 ⟨vq, rfl, hoq, hbq⟩
      have U2 := Hid.mk' (bT (bAlloc (Below.refl _ w1) (.cells #[.int .u8 92, .int .u8 60] 5 (2, 3))) hbq)
      have P0 : Hid (Tx w2 (some ⟨w1.heap.size, 0, none⟩) 2 2 [92, 60]) := (tx_lit (l := [92, 60]) (heap_alloc_new w1 (.cells #[.int .u8 92, .int .u8 60] 5 (2, 3))) rfl (by decide)).keep hbq
      obtain ⟨aq, cq, eq, htq⟩ := own_tx rfl (by omega) hoq
      subst eq
      have PQ := Hid.mk' htq
      clear hoq htq hbq HX2
      go_wp2_with fail
      have U3 := Hid.mk' (bAlloc (Below.refl _ w2) (.cells #[.int .u8 92, .int .u8 62] 5 (2, 3)))
      have P2 : Hid (Tx (w2.alloc (.cells #[.int .u8 92, .int .u8 62] 5 (2, 3))) (some ⟨w2.heap.size, 0, none⟩) 2 2 [92, 62]) := tx_lit (l := [92, 62]) (heap_alloc_new w2 (.cells #[.int .u8 92, .int .u8 62] 5 (2, 3))) rfl (by decide)
      have K4 : Hid (Blk ((w2.alloc (.cells #[.int .u8 92, .int .u8 62] 5 (2, 3))).alloc (.cells #[.slice (some ⟨w1.heap.size, 0, none⟩) 2 2, .slice aq (qt WL).length cq, .slice (some ⟨w2.heap.size, 0, none⟩) 2 2] 22)) (w2.heap.size + 1) 22 #[.slice (some ⟨w1.heap.size, 0, none⟩) 2 2, .slice aq (qt WL).length cq, .slice (some ⟨w2.heap.size, 0, none⟩) 2 2]) := by
        have := Blk.new (w2.alloc (.cells #[.int .u8 92, .int .u8 62] 5 (2, 3))) 22 #[.slice (some ⟨w1.heap.size, 0, none⟩) 2 2, .slice aq (qt WL).length cq, .slice (some ⟨w2.heap.size, 0, none⟩) 2 2]
        rw [World.size_alloc] at this
        exact this
      have U4 := Hid.mk' (bAlloc (Below.refl _ (w2.alloc (.cells #[.int .u8 92, .int .u8 62] 5 (2, 3)))) (.cells #[.slice (some ⟨w1.heap.size, 0, none⟩) 2 2, .slice aq (qt WL).length cq, .slice (some ⟨w2.heap.size, 0, none⟩) 2 2] 22))
      have T0 := Hid.mk' ((P0.out.keep U3.out).keep U4.out)
      have T1 := Hid.mk' ((PQ.out.keep U3.out).keep U4.out)
      have T2 := Hid.mk' (P2.out.keep U4.out)
      have B4 := Hid.mk' (bT B1.out (bT U2.out (bT U3.out U4.out)))
      generalize (w2.alloc (.cells #[.int .u8 92, .int .u8 62] 5 (2, 3))).alloc (.cells #[.slice (some ⟨w1.heap.size, 0, none⟩) 2 2, .slice aq (qt WL).length cq, .slice (some ⟨w2.heap.size, 0, none⟩) 2 2] 22) = w4 at *
      clear P0 PQ P2 U2 U3 U4 kc
      have hjl : (j3 (fun k => if k = 0 then [92, 60] else if k = 1 then qt WL else [92, 62]) 3) = upat WL := rfl
      have hul : (upat WL).length = (qt WL).length + 4 := by unfold upat; simp
      have CC := Hid.mk' (concat_any w4 (w2.heap.size + 1) 3 (fun k => if k = 0 then some ⟨w1.heap.size, 0, none⟩ else if k = 1 then aq else some ⟨w2.heap.size, 0, none⟩) (fun k => if k = 0 then 2 else if k = 1 then cq else 2) (fun k => if k = 0 then [92, 60] else if k = 1 then qt WL else [92, 62]) (by omega) (by rw [hjl]; omega) (by rw [hjl]; omega)
        (fun k hk => by
          match k, hk with
          | 0, _ => exact K4.out.cell (j := 0) rfl
          | 1, _ => exact K4.out.cell (j := 1) rfl
          | 2, _ => exact K4.out.cell (j := 2) rfl)
        (fun k hk => by
          match k, hk with
          | 0, _ => exact T0.out
          | 1, _ => exact T1.out
          | 2, _ => exact T2.out))
      rw [hjl] at CC
      refine CC.out.mono ?_
      rintro e w5 ⟨v5, rfl, ho5, hb5⟩
      have B5 := Hid.mk' (bT B4.out hb5)
      have O5 := Hid.mk' (own_lower ho5 B4.out.size)
      obtain ⟨a5, c5, e5⟩ := own_shape ho5
      subst e5
      obtain ⟨U, HU⟩ : ∃ U, Hid ((upat WL).length = U) := ⟨_, rfl⟩
      rw [HU.out] at O5 ⊢
      clear hb5 ho5 CC T0 T1 T2 K4 hjl hul hqt hWL
      by_cases h256 : 256 < U
      · have h256' : decide ((256 : Int) < (U : Int)) = true := decide_eq_true (by omega)
        have HR := Hid.mk' h256
        clear h256
        go_wp2
        go_ret2
        exact ⟨B5.out, .inr (.inr ⟨HP.out, s, x, by rw [Int.toNat_natCast]; exact HS.out, .inl ⟨by rw [HWL.out, HU.out]; exact HR.out, rfl⟩⟩)⟩
      · have h256' : decide ((256 : Int) < (U : Int)) = false := decide_eq_false (by omega)
        have HR : Hid (U ≤ 256) := by unfold Hid; omega
        clear h256
        go_wp2
        go_ret2
        exact ⟨B5.out, .inr (.inr ⟨HP.out, s, x, by rw [Int.toNat_natCast]; exact HS.out, .inr ⟨by rw [HWL.out, HU.out]; exact HR.out, _, rfl, by rw [HWL.out, HU.out]; exact O5.out⟩⟩)⟩
  · rw [decide_eq_false hp] at CI
    have HP : Hid (¬ (0 ≤ k ∧ k ≤ t.length)) := by unfold Hid; omega
    clear hp
    go_enter Try.func24, Try.ntmps24
    go_wp2_with fail
    refine CI.out.mono ?_
    rintro e w' ⟨rfl, hw⟩
    subst hw
    go_wp2
    go_ret2
    exact ⟨Below.refl _ _, .inl ⟨HP.out, rfl⟩⟩
end Go.Proofs.Ytaakgoojcogbcaa
/- hunt's laws: awake. -/
namespace Go.Proofs.Ytaakgoojcogbcaa
open Go.RowKit
theorem cmp_ab : (cmp [97, 98]).1 = -1 := by decide +kernel
theorem cmp_ab2 : (cmp [97, 98]).2.length ≤ 256 := by decide +kernel
theorem hs_ab : hs (cmp [97, 98]).2 [97, 98, 32, 99, 97, 98] = [0, 4] := by decide +kernel
theorem nx_ab : nxE (cmp [97, 98]).2 [97, 98, 32, 99, 97, 98] 4 1 false = tg 4 0 1 0 := by
  unfold nxE
  rw [hs_ab]
  rfl
theorem en_ab : en [97, 98, 32, 99, 97, 98] 4 = 6 := by decide +kernel
theorem wd_ab : WdS [97, 98, 32, 99, 97, 98] 4 3 6 := by
  have hall : ∀ j : Fin 7, iwt [97, 98, 32, 99, 97, 98] j.val = decide (j.val < 2 ∨ (2 < j.val ∧ j.val < 6)) := by decide +kernel
  have h9 : ∀ j, j < 7 → iwt [97, 98, 32, 99, 97, 98] j = decide (j < 2 ∨ (2 < j ∧ j < 6)) := fun j hj => hall ⟨j, hj⟩
  refine ⟨⟨4, by omega, by rw [en_ab]; omega, by rw [h9 4 (by omega)]; rfl, fun j a b => by omega, by omega, by omega⟩, by rw [en_ab]; omega, fun j a b => by rw [h9 j (by omega)]; exact decide_eq_true (by omega), .inr (by rw [h9 2 (by omega)]; rfl), .inl rfl⟩
theorem up_ab : upat (wlist [97, 98, 32, 99, 97, 98] 3 6) = [92, 60, 99, 97, 98, 92, 62] := by decide +kernel
set_option maxRecDepth 8000 in
set_option maxHeartbeats 4000000 in
theorem awake_at (w : World) (L : List Th) (HL : Hid ((cmp [97, 98]).2 = L)) (hL : L.length ≤ 256) (HN : Hid (nxE L [97, 98, 32, 99, 97, 98] 4 1 false = tg 4 0 1 0)) : Calls Try.prog 18 #[] w fun e w' => e = .returned (.bool true) ∧ Below w.heap.size w w' := by
  have C1 := Hid.mk' (fun W (B : Nat) (z : Nat × Nat) (h : W.heap[B]? = some (.cells #[.int .u8 97, .int .u8 98] 5 z)) => compile_any (some ⟨B, 0, none⟩) 2 2 [97, 98] W (Hid.mk' (tx_lit (l := [97, 98]) h rfl (by decide))))
  have kc := fun (w : World) (C : Array Value) (n c : Nat) => Lib.run_convert_bytes_const (P := Try.prog) w 22 5 C n c Try.underlying22 Try.underlying5
  go_enter Try.func18, Try.ntmps18
  go_wp2_with fail
  refine (C1.out _ _ _ (heap_alloc_new w _)).mono ?_
  intro e w1 h1
  obtain ⟨P, rfl, hP, hb1⟩ := h1.sound (by decide) cmp_ab
  have B1 := Hid.mk' (bT (bAlloc (Below.refl _ _) _) hb1)
  rw [HL.out] at hP
  have HP := Hid.mk' hP
  clear hb1 hP h1 C1
  go_wp2_with fail
  have TX2 := Hid.mk' (tx_lit (l := [97, 98, 32, 99, 97, 98]) (heap_alloc_new w1 (.cells #[.int .u8 97, .int .u8 98, .int .u8 32, .int .u8 99, .int .u8 97, .int .u8 98] 5 (6, 7))) rfl (by decide))
  have U2 := Hid.mk' (bAlloc (Below.refl _ w1) (.cells #[.int .u8 97, .int .u8 98, .int .u8 32, .int .u8 99, .int .u8 97, .int .u8 98] 5 (6, 7)))
  have CN := Hid.mk' (next_any _ _ P (some ⟨w1.heap.size, 0, none⟩) 6 6 [97, 98, 32, 99, 97, 98] L 4 1 false hL (HP.out.keep U2.out) TX2)
  rw [HN.out] at CN
  refine CN.out.mono ?_
  rintro e w2 ⟨rfl, hb2⟩
  have B2 := Hid.mk' (bT B1.out (bT U2.out hb2))
  clear CN hb2 U2 TX2 HP B1
  unfold tg
  have kc2 := fun (w : World) (o : Obj) (C : Array Value) (n c : Nat) => Joins.run_convert_bytes_const_at (P := Try.prog) (w.alloc o) 22 5 C n c (w.heap.size + 1) (by simp) Try.underlying22 Try.underlying5
  clear kc
  go_wp2_with fail
  have K3 := Hid.mk' (Blk.new w2 42 #[.int .i64 4, .int .i64 0, .int .i64 1])
  have U3 := Hid.mk' (bAlloc (Below.refl _ w2) (.cells #[.int .i64 4, .int .i64 0, .int .i64 1] 42))
  have h5 := heap_alloc_new (w2.alloc (.cells #[.int .i64 4, .int .i64 0, .int .i64 1] 42)) (.cells #[.int .u8 97, .int .u8 98, .int .u8 32, .int .u8 99, .int .u8 97, .int .u8 98] 5 (6, 7))
  simp only [World.size_alloc] at h5
  have TX4 := Hid.mk' (tx_lit (l := [97, 98, 32, 99, 97, 98]) h5 rfl (by decide))
  have U4 := Hid.mk' (bAlloc (Below.refl _ (w2.alloc (.cells #[.int .i64 4, .int .i64 0, .int .i64 1] 42))) (.cells #[.int .u8 97, .int .u8 98, .int .u8 32, .int .u8 99, .int .u8 97, .int .u8 98] 5 (6, 7)))
  refine (under_any _ 6 6 4 [97, 98, 32, 99, 97, 98] _ (by omega) TX4).mono ?_
  rintro e w5 ⟨hb5, hres⟩
  have B5 := Hid.mk' (bT B2.out (bT U3.out (bT U4.out hb5)))
  have K5 := Hid.mk' ((K3.out.keep U4.out).keep hb5)
  have c0 : w5.cell? ⟨w2.heap.size, 0, none⟩ = some (.int .i64 4) := K5.out.cell (j := 0) rfl
  have c1 : w5.cell? ⟨w2.heap.size, 1, none⟩ = some (.int .i64 0) := K5.out.cell (j := 1) rfl
  have c2 : w5.cell? ⟨w2.heap.size, 2, none⟩ = some (.int .i64 1) := K5.out.cell (j := 2) rfl
  rcases hres with ⟨h, _⟩ | ⟨_, h, _⟩ | ⟨_, s, x, hS, hres⟩
  · exact absurd (by decide : (0 : Int) ≤ 4 ∧ (4 : Int) ≤ ([97, 98, 32, 99, 97, 98] : List UInt8).length) h
  · exact (wd_ab.not h).elim
  · obtain ⟨rfl, rfl⟩ := hS.one wd_ab
    rw [up_ab] at hres
    rcases hres with ⟨h, _⟩ | ⟨_, v, rfl, ho⟩
    · exact absurd h (by decide)
    · obtain ⟨a6, c6, e6, t6⟩ := own_tx (n := 7) rfl (by omega) ho
      subst e6
      have cv := conv_tx t6
      clear hS ho t6 U3 U4 K3 K5 TX4 h5 hb5 kc2 B2
      go_wp2
      go_ret
      exact ⟨rfl, B5.out⟩
theorem awake_any (w : World) : Calls Try.prog 18 #[] w fun e w' => e = .returned (.bool true) ∧ Below w.heap.size w w' := awake_at w _ rfl cmp_ab2 nx_ab
end Go.Proofs.Ytaakgoojcogbcaa
