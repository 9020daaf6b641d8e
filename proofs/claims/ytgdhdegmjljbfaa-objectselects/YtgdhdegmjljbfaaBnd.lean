/- object.bounds. -/
import Derived.Test.YtgdhdegmjljbfaaLrn
import Derived.Test.YtgdhdegmjljbfaaChs
import Derived.Test.YtgdhdegmjljbfaaBrd
namespace Go.Proofs.Ytgdhdegmjljbfaa
open Go.RowKit
/-- the first run that ends behind q -/
def ix (R : List Rn3) (q : Nat) : Nat := R.findIdx fun x => decide (q < x.2.1)
theorem ix_fst (R : List Rn3) (q : Nat) : Fst R q (ix R q) := by
  refine ⟨List.findIdx_le_length, fun j x hj hx => ?_, fun x hx => ?_⟩
  · have h := List.not_of_lt_findIdx (p := fun x : Rn3 => decide (q < x.2.1)) (xs := R) (i := j) hj
    obtain ⟨h1, h2⟩ := List.getElem?_eq_some_iff.1 hx
    rw [h2] at h
    simpa using h
  · obtain ⟨h1, h2⟩ := List.getElem?_eq_some_iff.1 hx
    have h := List.findIdx_getElem (p := fun x : Rn3 => decide (q < x.2.1)) (xs := R) (w := h1)
    have h3 : decide (q < (R[ix R q]).2.1) = true := h
    rw [h2] at h3
    simpa using h3
theorem Fst.one {R : List Rn3} {q i j : Nat} (h : Fst R q i) (g : Fst R q j) : i = j := by
  rcases Nat.lt_trichotomy i j with hh | hh | hh
  · have hl : i < R.length := by have := g.le; omega
    have h1 := h.here R[i] (List.getElem?_eq_getElem hl)
    have h2 := g.low i R[i] hh (List.getElem?_eq_getElem hl)
    omega
  · exact hh
  · have hl : j < R.length := by have := h.le; omega
    have h1 := g.here R[j] (List.getElem?_eq_getElem hl)
    have h2 := h.low j R[j] hh (List.getElem?_eq_getElem hl)
    omega
/-- what bounds answers -/
def bnd (l : List UInt8) (q n : Nat) (k : Int) (a : Bool) : Option (Nat × Nat) :=
  if k = 119 then cx (wl l q false) (ix (wl l q false) q) n a
  else if k = 87 then cx (wl l q true) (ix (wl l q true) q) n a
  else if k = 112 then cx (pl l) (ix (pl l) q) n a
  else if k = 34 ∨ k = 39 ∨ k = 96 then qx l k q a
  else bx l k q n a
/-- the keys -/
def isS (k : Int) : Prop := k = 119 ∨ k = 87 ∨ k = 112 ∨ (k = 34 ∨ k = 39 ∨ k = 96) ∨ isB k
theorem wl_len (l : List UInt8) (q : Nat) (big : Bool) : (wl l q big).length ≤ l.length := by
  have : (wl l q big).length = rm (kn (lq l q) big) (lm l q) := rl_len ..
  rw [this]
  have h1 := rm_le (kn (lq l q) big) (lm l q)
  unfold lm at *
  have h2 : en l (bg l q) - bg l q ≤ l.length := by
    rcases Nat.lt_or_ge l.length (bg l q) with h | h
    · have : (l.drop (bg l q)) = [] := List.drop_eq_nil_of_le (by omega)
      unfold en
      rw [this]
      simp
    · have := en_le h; omega
  omega
theorem pl_len (l : List UInt8) : (pl l).length ≤ l.length + 1 := by
  have : (pl l).length = rm (ek l) (nl l + 1) := rl_len ..
  rw [this]
  have h1 := rm_le (ek l) (nl l + 1)
  have := nl_le l
  omega
set_option maxRecDepth 8000 in
set_option maxHeartbeats 8000000 in
theorem bounds_any (ao : Option Addr) (n c q cnt : Nat) (k : Int) (a : Bool) (l : List UInt8) (w : World) (hn : n ≤ 4398046511103) (hq : q ≤ n) (hc1 : 1 ≤ cnt) (hc2 : cnt ≤ 9999) (hk : isS k) (HT : Hid (Tx w ao n c l)) :
    Calls Try.prog 27 #[.slice ao n c, .int .i64 (q : Int), .int .i64 (cnt : Int), .int .u8 k, .bool a] w fun e w' => e = oa (bnd l q cnt k a) ∧ Below w.heap.size w w' := by
  have hl := HT.out.len
  have CC := Hid.mk' (fun W base ao' c' R v (hR : R.length ≤ 4398046511104) (hv : v = Value.slice ao' R.length c') (ho : W.ownsRow base 77 3 v R.length (rvs R)) => choose_any base ao' c' R q cnt (ix R q) a W hR (ix_fst R q) hc1 hc2 (hv ▸ ho))
  rcases hk with rfl | rfl | rfl | hk | hk
  · have HB : Hid (bnd l q cnt 119 a = cx (wl l q false) (ix (wl l q false) q) cnt a) := rfl
    have CW := Hid.mk' (wordRuns_any ao n c q false l w (by omega) hq HT)
    have HL := Hid.mk' (wl_len l q false)
    generalize wl l q false = R at *
    go_enter Try.func27, Try.ntmps27
    go_wp2_with (first | (go_at_call 39; refine CW.out.mono ?_; rintro e w1 ⟨v, rfl, ho, hb1⟩; obtain ⟨a1, c1, hv⟩ := own_shape ho; subst hv; have B1 := Hid.mk' hb1; have O1 := Hid.mk' ho; clear hb1 ho) | (go_at_call 38; refine (CC.out _ _ _ _ R _ (by have := HL.out; omega) rfl O1.out).mono ?_; rintro e w2 ⟨rfl, hb2⟩; have B2 := Hid.mk' (bT B1.out hb2); unfold oa; clear hb2))
    all_goals go_ret3
    all_goals exact ⟨by rw [HB.out]; rfl, B2.out⟩
  · have HB : Hid (bnd l q cnt 87 a = cx (wl l q true) (ix (wl l q true) q) cnt a) := rfl
    have CW := Hid.mk' (wordRuns_any ao n c q true l w (by omega) hq HT)
    have HL := Hid.mk' (wl_len l q true)
    generalize wl l q true = R at *
    go_enter Try.func27, Try.ntmps27
    go_wp2_with (first | (go_at_call 39; refine CW.out.mono ?_; rintro e w1 ⟨v, rfl, ho, hb1⟩; obtain ⟨a1, c1, hv⟩ := own_shape ho; subst hv; have B1 := Hid.mk' hb1; have O1 := Hid.mk' ho; clear hb1 ho) | (go_at_call 38; refine (CC.out _ _ _ _ R _ (by have := HL.out; omega) rfl O1.out).mono ?_; rintro e w2 ⟨rfl, hb2⟩; have B2 := Hid.mk' (bT B1.out hb2); unfold oa; clear hb2))
    all_goals go_ret3
    all_goals exact ⟨by rw [HB.out]; rfl, B2.out⟩
  · have HB : Hid (bnd l q cnt 112 a = cx (pl l) (ix (pl l) q) cnt a) := rfl
    have CW := Hid.mk' (lineRuns_any ao n c l w hn HT)
    have HL := Hid.mk' (pl_len l)
    generalize pl l = R at *
    go_enter Try.func27, Try.ntmps27
    go_wp2_with (first | (go_at_call 40; refine CW.out.mono ?_; rintro e w1 ⟨v, rfl, ho, hb1⟩; obtain ⟨a1, c1, hv⟩ := own_shape ho; subst hv; have B1 := Hid.mk' hb1; have O1 := Hid.mk' ho; clear hb1 ho) | (go_at_call 38; refine (CC.out _ _ _ _ R _ (by have := HL.out; omega) rfl O1.out).mono ?_; rintro e w2 ⟨rfl, hb2⟩; have B2 := Hid.mk' (bT B1.out hb2); unfold oa; clear hb2))
    all_goals go_ret3
    all_goals exact ⟨by rw [HB.out]; rfl, B2.out⟩
  · have HB : Hid (bnd l q cnt k a = qx l k q a) := by unfold Hid bnd; rw [if_neg (by omega), if_neg (by omega), if_neg (by omega), if_pos hk]
    have CQ := Hid.mk' (quoted_any ao n c q k a l w hq HT)
    generalize qx l k q a = r at *
    unfold oa at CQ
    rcases hk with rfl | rfl | rfl
    all_goals go_enter Try.func27, Try.ntmps27
    all_goals go_wp2_with (go_at_call 41; refine CQ.out.mono ?_; rintro e w1 ⟨rfl, hb1⟩; have B1 := Hid.mk' hb1; clear hb1)
    all_goals go_ret3
    all_goals exact ⟨by rw [HB.out]; rfl, B1.out⟩
  · have HB : Hid (bnd l q cnt k a = bx l k q cnt a) := by unfold isB at hk; unfold Hid bnd; rw [if_neg (by omega), if_neg (by omega), if_neg (by omega), if_neg (by omega)]
    have CQ := Hid.mk' (bracketed_any ao n c q cnt k a l w (by omega) hq hc1 hc2 hk HT)
    generalize bx l k q cnt a = r at *
    unfold oa at CQ
    unfold isB at hk
    have t1 : (k == 119) = false := by simp; omega
    have t2 : (k == 87) = false := by simp; omega
    have t3 : (k == 112) = false := by simp; omega
    have t4 : (k == 34) = false := by simp; omega
    have t5 : (k == 39) = false := by simp; omega
    have t6 : (k == 96) = false := by simp; omega
    clear hk
    go_enter Try.func27, Try.ntmps27
    go_wp2_with (go_at_call 42; refine CQ.out.mono ?_; rintro e w1 ⟨rfl, hb1⟩; have B1 := Hid.mk' hb1; clear hb1)
    all_goals go_ret3
    all_goals exact ⟨by rw [HB.out]; rfl, B1.out⟩
end Go.Proofs.Ytgdhdegmjljbfaa
