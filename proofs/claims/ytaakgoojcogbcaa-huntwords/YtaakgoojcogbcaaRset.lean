/- readSet. -/
import Derived.Test.YtaakgoojcogbcaaStar
import Derived.StillTailTactics
namespace Go.Proofs.Ytaakgoojcogbcaa
open Go.RowKit
/-- a set, read -/
def setR (p : List UInt8) (i : Nat) (l : List Th) : Int × Nat × List Th :=
  if (sR p i).1 = p.length then (i, i, l)
  else ((sR p i).2.2, (sR p i).1 + 1, l ++ [one (if ngd p i then fun x => !(sR p i).2.1 x else (sR p i).2.1)])
theorem sl_stop {p : List UInt8} {first m i : Nat} {s : Nat → Bool} {f : Int} (h : ¬ (i < p.length ∧ (i = first ∨ bn p i ≠ 93))) : sl p first m i s f = (i, s, f) := by
  cases m with
  | zero => rfl
  | succ m => unfold sl; rw [if_neg h]
theorem sl_go {p : List UInt8} {first m i : Nat} {s : Nat → Bool} {f : Int} (h : i < p.length ∧ (i = first ∨ bn p i ≠ 93)) : sl p first (m + 1) i s f = sl p first m (i + (itm p i).2.2) (fun x => s x || (decide ((itm p i).1 ≤ x) && decide (x ≤ (itm p i).2.1))) (if (itm p i).2.1 < (itm p i).1 ∧ f = -1 then (i : Int) else f) := by
  conv => lhs; unfold sl
  rw [if_pos h]

theorem mixed : Try.prog.follows .mixedOrders = true := by kernel_rfl
set_option maxRecDepth 8000 in
set_option maxHeartbeats 8000000 in
theorem set_plain (w W : World) (B : Nat) (tv : Value) (g o n c a first : Nat) (p : List UInt8) (l : List Th) (E : Nat) (S : Nat → Bool) (F : Int) (hl : l.length ≤ 256) (ha : a ≤ 256) (han : a < n) (hn : p.length = n) (hn2 : n ≤ 256) (HT : Hid (Tx w (some ⟨g, o, none⟩) n c p)) (H : Hid (Rd w W B tv (some ⟨g, o, none⟩) n c a l)) (hf0 : first = a + 1) (hneg : first < n → bn p first ≠ 94) (HS : Hid (sl p first n first (fun _ => false) (-1) = (E, S, F))) :
    Calls Try.prog 52 #[.pointer (some ⟨B, 0, none⟩)] W fun e W' => Left w B (some ⟨g, o, none⟩) n c (if E = n then ((a : Int), a, l) else (F, E + 1, l ++ [one S])) e W' := by
  have hmx := mixed
  have c0 : W.cell? ⟨B, 0, none⟩ = some (.slice (some ⟨g, o, none⟩) n c) := H.out.blk.cell (j := 0) rfl
  have c1 : W.cell? ⟨B, 1, none⟩ = some (.int .i64 (a : Int)) := H.out.blk.cell (j := 1) rfl
  have HCW : Hid (∀ j, j < n → W.cell? ⟨g, o + j, none⟩ = some (.int .u8 (bn p j : Int))) := by
    obtain ⟨g', o', e1, hc⟩ := tx_cell HT.out H.out.bel (i := a) han
    injection e1 with e1; injection e1 with e1 e2 _; subst e1 e2; exact hc
  have hfn : first ≤ n := by omega
  subst hf0
  by_cases hfl : a + 1 < n
  · have hfl' : (a : Int) + 1 < (n : Int) := by omega
    have cx := HCW.out (a + 1) hfl
    have hne := hneg hfl
    obtain ⟨x, hx⟩ : ∃ x, x = bn p (a + 1) := ⟨_, rfl⟩
    rw [← hx] at cx hne
    have hne' : ((x : Int) == 94) = false := by simp; omega
    have hi2 : ((a : Int) + 1).toNat = a + 1 := by omega
    clear hx hneg
    go_enter Try.func52, Try.ntmps52
    go_wp2_with fail
    go_loopg [6, 7, 8, 9, 10] n (fun m x6 x7 x8 x9 x10 wx => ∃ (j : Nat) (s : Nat → Bool) (f : Int), x7 = .int .i64 (j : Int) ∧ x6 = .int .i64 f ∧ (a + 1) ≤ j ∧ j ≤ n ∧ n ≤ m + j ∧ (f = -1 ∨ 0 ≤ f ∧ f ≤ 256) ∧ Hid (Blk wx W.heap.size 93 (wv s)) ∧ Hid (Below W.heap.size W wx) ∧ Hid (sl p (a + 1) m j s f = (E, S, F)))
    case atStart =>
      refine ⟨(a + 1), fun _ => false, -1, by go_num, rfl, Nat.le_refl _, hfn, by omega, .inl rfl, ?_, bAlloc (Below.refl _ _) _, HS.out⟩
      rw [wv_none]; exact Blk.new W 93 _
    case round =>
      obtain ⟨j, s, f, rfl, rfl, hj1, hj2, hj3, hf3, HK, HB1, HL⟩ := hrel
      have d0 := keepC HB1.out c0
      have HC : Hid (∀ j, j < n → wr.cell? ⟨g, o + j, none⟩ = some (.int .u8 (bn p j : Int))) := fun q hq => keepC HB1.out (HCW.out q hq)
      by_cases hjn : j < n
      · by_cases hjf : j = (a + 1)
        · have hjf' : ((j : Int) == ((a : Int) + 1)) = true := by simp; omega
          have hcond : j < p.length ∧ (j = (a + 1) ∨ bn p j ≠ 93) := ⟨by omega, .inl hjf⟩
          have hjn' : (j : Int) < (n : Int) := by omega
          have hz := itm_size p j (by omega)
          obtain ⟨⟨lo, hi, sz⟩, HI⟩ : ∃ x, Hid (itm p j = x) := ⟨_, rfl⟩
          rw [HI.out] at hz
          dsimp only at hz
          obtain ⟨hz1, hz2, hz3, hz4⟩ := hz
          have hm0 : gk ≠ 0 := by omega
          obtain ⟨m, hm⟩ : ∃ m, gk = m + 1 := ⟨gk - 1, by omega⟩
          subst hm
          have HSL : Hid (sl p (a + 1) m (j + sz) (fun x => s x || (decide (lo ≤ x) && decide (x ≤ hi))) (if hi < lo ∧ f = -1 then (j : Int) else f) = (E, S, F)) := by
            have := HL.out; rw [sl_go hcond, HI.out] at this; exact this
          have CI := Hid.mk' (item_any g (o + j) (n - j) (c - j) j p wr (by omega) (by omega) (by omega) (Hid.mk' (by
            intro q hq; have := HC.out (j + q) (by omega); rw [← Nat.add_assoc] at this; exact this)))
          rw [HI.out] at CI
          dsimp only at CI
          have hcn : n ≤ c := HT.out.cap
          have hjl : (j : Int) ≤ (n : Int) := by omega
          clear hcond HI HL hjf
          by_cases hlh : hi < lo
          · have hlh' : (hi : Int) < (lo : Int) := by omega
            by_cases hf : f = -1
            · subst hf
              go_wp2_with (go_at_call 82; with_reducible (refine CI.out.mono ?_); rintro e w6 ⟨rfl, hb6⟩; have B6 := Hid.mk' hb6; clear hb6)
              refine (add_any s W.heap.size lo hi w6 hz3 hz4 (Hid.mk' (HK.out.keep B6.out))).mono ?_
              rintro e w7 ⟨rfl, hb7, hk7⟩
              have B7 := Hid.mk' ((HB1.out.trans (B6.out.mono HB1.out.size)).trans hb7)
              have K7 := Hid.mk' hk7
              clear hb7 hk7
              go_wp2
              go_roundg m
              case measure => omega
              case rel => exact ⟨j + sz, _, (j : Int), by go_num, rfl, by omega, by omega, by omega, by omega, K7.out, B7.out, by have := HSL.out; rw [if_pos ⟨hlh, by first | rfl | trivial⟩] at this; exact this⟩
            · have hf' : (f == -1) = false := by simpa using hf
              go_wp2_with (go_at_call 82; with_reducible (refine CI.out.mono ?_); rintro e w6 ⟨rfl, hb6⟩; have B6 := Hid.mk' hb6; clear hb6)
              refine (add_any s W.heap.size lo hi w6 hz3 hz4 (Hid.mk' (HK.out.keep B6.out))).mono ?_
              rintro e w7 ⟨rfl, hb7, hk7⟩
              have B7 := Hid.mk' ((HB1.out.trans (B6.out.mono HB1.out.size)).trans hb7)
              have K7 := Hid.mk' hk7
              clear hb7 hk7
              go_wp2
              go_roundg m
              case measure => omega
              case rel => exact ⟨j + sz, _, f, by go_num, rfl, by omega, by omega, by omega, by omega, K7.out, B7.out, by have := HSL.out; rw [if_neg (fun h => hf h.2)] at this; exact this⟩
          · have hlh' : ¬ ((hi : Int) < (lo : Int)) := by omega
            have hlh2 : decide ((hi : Int) < (lo : Int)) = false := decide_eq_false hlh'
            go_wp2_with (go_at_call 82; with_reducible (refine CI.out.mono ?_); rintro e w6 ⟨rfl, hb6⟩; have B6 := Hid.mk' hb6; clear hb6)
            refine (add_any s W.heap.size lo hi w6 hz3 hz4 (Hid.mk' (HK.out.keep B6.out))).mono ?_
            rintro e w7 ⟨rfl, hb7, hk7⟩
            have B7 := Hid.mk' ((HB1.out.trans (B6.out.mono HB1.out.size)).trans hb7)
            have K7 := Hid.mk' hk7
            clear hb7 hk7
            go_wp2
            go_roundg m
            case measure => omega
            case rel => exact ⟨j + sz, _, f, by go_num, rfl, by omega, by omega, by omega, by omega, K7.out, B7.out, by have := HSL.out; rw [if_neg (fun h => hlh h.1)] at this; exact this⟩
        · have hjf' : ((j : Int) == ((a : Int) + 1)) = false := by simp; omega
          have hjj : (j : Int) < (n : Int) := by omega
          have dx := HC.out j hjn
          obtain ⟨y, HY⟩ : ∃ y, Hid (bn p j = y) := ⟨_, rfl⟩
          rw [HY.out] at dx
          by_cases h93 : y = 93
          · have h93' : ((y : Int) != 93) = false := by simp; omega
            have hcond : ¬ (j < p.length ∧ (j = (a + 1) ∨ bn p j ≠ 93)) := by rw [HY.out]; rintro ⟨_, h | h⟩ <;> omega
            have he := HL.out
            rw [sl_stop hcond] at he
            injection he with he1 he2
            injection he2 with he2 he3
            subst he1 he2 he3
            have d1 := keepC HB1.out c1
            have hen : j ≠ n := by omega
            have hen' : ((j : Int) == (n : Int)) = false := by simp; omega
            have k0 := HK.out.cell (wv_at _ (j := 0) (by omega))
            have k1 := HK.out.cell (wv_at _ (j := 1) (by omega))
            have k2 := HK.out.cell (wv_at _ (j := 2) (by omega))
            have k3 := HK.out.cell (wv_at _ (j := 3) (by omega))
            have CT : Hid (∀ (G : Nat → Bool) W', Rd w W' B tv (some ⟨g, o, none⟩) n c a l → Calls Try.prog 49 #[.pointer (some ⟨B, 0, none⟩), .iface 96 (.agg #[.int .u64 (wz G 0 : Int), .int .u64 (wz G 1 : Int), .int .u64 (wz G 2 : Int), .int .u64 (wz G 3 : Int)]), .int .i64 ((j : Int) + 1 - (a : Int))] W' fun e W'' => e = .returned (.tuple #[]) ∧ Hid (∃ tv', Rd w W'' B tv' (some ⟨g, o, none⟩) n c (j + 1) (l ++ [one G]))) := by
              intro G W' hr
              have h := take_any w W' B tv _ n c a (j + 1 - a) l (one G) hl ha (by omega) hr
              rw [show ((j + 1 - a : Nat) : Int) = (j : Int) + 1 - (a : Int) by omega, show a + (j + 1 - a) = j + 1 by omega] at h
              exact h
            go_wp2_with fail
            go_still_tail 11, hmx
            go_wp2_with fail
            refine (CT.out s _ (H.out.keep HB1.out.drew)).mono ?_
            rintro e w9 ⟨rfl, hx⟩
            clear CT
            go_wp2
            go_ret
            try rw [if_neg hen]
            exact ⟨rfl, hx.out⟩
          · have h93' : ((y : Int) != 93) = true := by simp; omega
            have hcond : j < p.length ∧ (j = (a + 1) ∨ bn p j ≠ 93) := ⟨by omega, .inr (by rw [HY.out]; exact h93)⟩
            have hjn' : (j : Int) < (n : Int) := by omega
            have hz := itm_size p j (by omega)
            obtain ⟨⟨lo, hi, sz⟩, HI⟩ : ∃ x, Hid (itm p j = x) := ⟨_, rfl⟩
            rw [HI.out] at hz
            dsimp only at hz
            obtain ⟨hz1, hz2, hz3, hz4⟩ := hz
            have hm0 : gk ≠ 0 := by omega
            obtain ⟨m, hm⟩ : ∃ m, gk = m + 1 := ⟨gk - 1, by omega⟩
            subst hm
            have HSL : Hid (sl p (a + 1) m (j + sz) (fun x => s x || (decide (lo ≤ x) && decide (x ≤ hi))) (if hi < lo ∧ f = -1 then (j : Int) else f) = (E, S, F)) := by
              have := HL.out; rw [sl_go hcond, HI.out] at this; exact this
            have CI := Hid.mk' (item_any g (o + j) (n - j) (c - j) j p wr (by omega) (by omega) (by omega) (Hid.mk' (by
              intro q hq; have := HC.out (j + q) (by omega); rw [← Nat.add_assoc] at this; exact this)))
            rw [HI.out] at CI
            dsimp only at CI
            have hcn : n ≤ c := HT.out.cap
            have hjl : (j : Int) ≤ (n : Int) := by omega
            clear hcond HI HL hjf
            by_cases hlh : hi < lo
            · have hlh' : (hi : Int) < (lo : Int) := by omega
              by_cases hf : f = -1
              · subst hf
                go_wp2_with (go_at_call 82; with_reducible (refine CI.out.mono ?_); rintro e w6 ⟨rfl, hb6⟩; have B6 := Hid.mk' hb6; clear hb6)
                refine (add_any s W.heap.size lo hi w6 hz3 hz4 (Hid.mk' (HK.out.keep B6.out))).mono ?_
                rintro e w7 ⟨rfl, hb7, hk7⟩
                have B7 := Hid.mk' ((HB1.out.trans (B6.out.mono HB1.out.size)).trans hb7)
                have K7 := Hid.mk' hk7
                clear hb7 hk7
                go_wp2
                go_roundg m
                case measure => omega
                case rel => exact ⟨j + sz, _, (j : Int), by go_num, rfl, by omega, by omega, by omega, by omega, K7.out, B7.out, by have := HSL.out; rw [if_pos ⟨hlh, by first | rfl | trivial⟩] at this; exact this⟩
              · have hf' : (f == -1) = false := by simpa using hf
                go_wp2_with (go_at_call 82; with_reducible (refine CI.out.mono ?_); rintro e w6 ⟨rfl, hb6⟩; have B6 := Hid.mk' hb6; clear hb6)
                refine (add_any s W.heap.size lo hi w6 hz3 hz4 (Hid.mk' (HK.out.keep B6.out))).mono ?_
                rintro e w7 ⟨rfl, hb7, hk7⟩
                have B7 := Hid.mk' ((HB1.out.trans (B6.out.mono HB1.out.size)).trans hb7)
                have K7 := Hid.mk' hk7
                clear hb7 hk7
                go_wp2
                go_roundg m
                case measure => omega
                case rel => exact ⟨j + sz, _, f, by go_num, rfl, by omega, by omega, by omega, by omega, K7.out, B7.out, by have := HSL.out; rw [if_neg (fun h => hf h.2)] at this; exact this⟩
            · have hlh' : ¬ ((hi : Int) < (lo : Int)) := by omega
              have hlh2 : decide ((hi : Int) < (lo : Int)) = false := decide_eq_false hlh'
              go_wp2_with (go_at_call 82; with_reducible (refine CI.out.mono ?_); rintro e w6 ⟨rfl, hb6⟩; have B6 := Hid.mk' hb6; clear hb6)
              refine (add_any s W.heap.size lo hi w6 hz3 hz4 (Hid.mk' (HK.out.keep B6.out))).mono ?_
              rintro e w7 ⟨rfl, hb7, hk7⟩
              have B7 := Hid.mk' ((HB1.out.trans (B6.out.mono HB1.out.size)).trans hb7)
              have K7 := Hid.mk' hk7
              clear hb7 hk7
              go_wp2
              go_roundg m
              case measure => omega
              case rel => exact ⟨j + sz, _, f, by go_num, rfl, by omega, by omega, by omega, by omega, K7.out, B7.out, by have := HSL.out; rw [if_neg (fun h => hlh h.1)] at this; exact this⟩
      · have hjn' : ¬ ((j : Int) < (n : Int)) := by omega
        have hjn2 : decide ((j : Int) < (n : Int)) = false := decide_eq_false hjn'
        have hcond : ¬ (j < p.length ∧ (j = (a + 1) ∨ bn p j ≠ 93)) := fun h => by omega
        have he := HL.out
        rw [sl_stop hcond] at he
        injection he with he1 he2
        injection he2 with he2 he3
        subst he1 he2 he3
        have d1 := keepC HB1.out c1
        have hen : j = n := by omega
        have hen' : ((j : Int) == (n : Int)) = true := by simp; omega
        have HEN := Hid.mk' hen
        clear hen
        go_wp2
        go_ret
        try rw [if_pos HEN.out]
        exact ⟨rfl, tv, H.out.keep HB1.out⟩
  · have hfl' : ¬ ((a : Int) + 1 < (n : Int)) := by omega
    have hfl2 : decide ((a : Int) + 1 < (n : Int)) = false := decide_eq_false hfl'
    have he := HS.out
    rw [sl_stop (fun h => by omega)] at he
    injection he with he1 he2
    injection he2 with he2 he3
    subst he1 he2 he3
    have hen : ((a : Int) + 1 == (n : Int)) = true := by simp; omega
    have HEN : Hid (a + 1 = n) := by unfold Hid; omega
    clear HS
    go_enter Try.func52, Try.ntmps52
    go_wp2_with fail
    go_loopg [6, 7, 8, 9, 10] 1 (fun m x6 x7 x8 x9 x10 wx => x6 = .int .i64 (-1) ∧ x7 = .int .i64 ((a : Int) + 1) ∧ Hid (Below W.heap.size W wx))
    case atStart => exact ⟨rfl, rfl, bAlloc (Below.refl _ _) _⟩
    case round =>
      obtain ⟨rfl, rfl, HB1⟩ := hrel
      have d0 := keepC HB1.out c0
      have d1 := keepC HB1.out c1
      go_wp2
      go_ret
      try rw [if_pos HEN.out]
      exact ⟨rfl, tv, H.out.keep HB1.out⟩
set_option maxRecDepth 8000 in
set_option maxHeartbeats 8000000 in
theorem set_neg (w W : World) (B : Nat) (tv : Value) (g o n c a first : Nat) (p : List UInt8) (l : List Th) (E : Nat) (S : Nat → Bool) (F : Int) (hl : l.length ≤ 256) (ha : a ≤ 256) (han : a < n) (hn : p.length = n) (hn2 : n ≤ 256) (HT : Hid (Tx w (some ⟨g, o, none⟩) n c p)) (H : Hid (Rd w W B tv (some ⟨g, o, none⟩) n c a l)) (hf0 : first = a + 2) (hfl : a + 1 < n) (hneg : bn p (a + 1) = 94) (HS : Hid (sl p first n first (fun _ => false) (-1) = (E, S, F))) :
    Calls Try.prog 52 #[.pointer (some ⟨B, 0, none⟩)] W fun e W' => Left w B (some ⟨g, o, none⟩) n c (if E = n then ((a : Int), a, l) else (F, E + 1, l ++ [one (fun x => !S x)])) e W' := by
  have hmx := mixed
  have c0 : W.cell? ⟨B, 0, none⟩ = some (.slice (some ⟨g, o, none⟩) n c) := H.out.blk.cell (j := 0) rfl
  have c1 : W.cell? ⟨B, 1, none⟩ = some (.int .i64 (a : Int)) := H.out.blk.cell (j := 1) rfl
  have HCW : Hid (∀ j, j < n → W.cell? ⟨g, o + j, none⟩ = some (.int .u8 (bn p j : Int))) := by
    obtain ⟨g', o', e1, hc⟩ := tx_cell HT.out H.out.bel (i := a) han
    injection e1 with e1; injection e1 with e1 e2 _; subst e1 e2; exact hc
  have hfn : first ≤ n := by omega
  subst hf0
  have hfl' : (a : Int) + 1 < (n : Int) := by omega
  have cx := HCW.out (a + 1) hfl
  rw [hneg] at cx
  have hi2 : ((a : Int) + 1).toNat = a + 1 := by omega
  clear hneg
  go_enter Try.func52, Try.ntmps52
  go_wp2_with fail
  go_loopg [6, 7, 8, 9, 10] n (fun m x6 x7 x8 x9 x10 wx => ∃ (j : Nat) (s : Nat → Bool) (f : Int), x7 = .int .i64 (j : Int) ∧ x6 = .int .i64 f ∧ (a + 2) ≤ j ∧ j ≤ n ∧ n ≤ m + j ∧ (f = -1 ∨ 0 ≤ f ∧ f ≤ 256) ∧ Hid (Blk wx W.heap.size 93 (wv s)) ∧ Hid (Below W.heap.size W wx) ∧ Hid (sl p (a + 2) m j s f = (E, S, F)))
  case atStart =>
    refine ⟨(a + 2), fun _ => false, -1, by go_num, rfl, Nat.le_refl _, hfn, by omega, .inl rfl, ?_, bAlloc (Below.refl _ _) _, HS.out⟩
    rw [wv_none]; exact Blk.new W 93 _
  case round =>
    obtain ⟨j, s, f, rfl, rfl, hj1, hj2, hj3, hf3, HK, HB1, HL⟩ := hrel
    have d0 := keepC HB1.out c0
    have HC : Hid (∀ j, j < n → wr.cell? ⟨g, o + j, none⟩ = some (.int .u8 (bn p j : Int))) := fun q hq => keepC HB1.out (HCW.out q hq)
    by_cases hjn : j < n
    · by_cases hjf : j = (a + 2)
      · have hjf' : ((j : Int) == ((a : Int) + 1 + 1)) = true := by simp; omega
        have hcond : j < p.length ∧ (j = (a + 2) ∨ bn p j ≠ 93) := ⟨by omega, .inl hjf⟩
        have hjn' : (j : Int) < (n : Int) := by omega
        have hz := itm_size p j (by omega)
        obtain ⟨⟨lo, hi, sz⟩, HI⟩ : ∃ x, Hid (itm p j = x) := ⟨_, rfl⟩
        rw [HI.out] at hz
        dsimp only at hz
        obtain ⟨hz1, hz2, hz3, hz4⟩ := hz
        have hm0 : gk ≠ 0 := by omega
        obtain ⟨m, hm⟩ : ∃ m, gk = m + 1 := ⟨gk - 1, by omega⟩
        subst hm
        have HSL : Hid (sl p (a + 2) m (j + sz) (fun x => s x || (decide (lo ≤ x) && decide (x ≤ hi))) (if hi < lo ∧ f = -1 then (j : Int) else f) = (E, S, F)) := by
          have := HL.out; rw [sl_go hcond, HI.out] at this; exact this
        have CI := Hid.mk' (item_any g (o + j) (n - j) (c - j) j p wr (by omega) (by omega) (by omega) (Hid.mk' (by
          intro q hq; have := HC.out (j + q) (by omega); rw [← Nat.add_assoc] at this; exact this)))
        rw [HI.out] at CI
        dsimp only at CI
        have hcn : n ≤ c := HT.out.cap
        have hjl : (j : Int) ≤ (n : Int) := by omega
        clear hcond HI HL hjf
        by_cases hlh : hi < lo
        · have hlh' : (hi : Int) < (lo : Int) := by omega
          by_cases hf : f = -1
          · subst hf
            go_wp2_with (go_at_call 82; with_reducible (refine CI.out.mono ?_); rintro e w6 ⟨rfl, hb6⟩; have B6 := Hid.mk' hb6; clear hb6)
            refine (add_any s W.heap.size lo hi w6 hz3 hz4 (Hid.mk' (HK.out.keep B6.out))).mono ?_
            rintro e w7 ⟨rfl, hb7, hk7⟩
            have B7 := Hid.mk' ((HB1.out.trans (B6.out.mono HB1.out.size)).trans hb7)
            have K7 := Hid.mk' hk7
            clear hb7 hk7
            go_wp2
            go_roundg m
            case measure => omega
            case rel => exact ⟨j + sz, _, (j : Int), by go_num, rfl, by omega, by omega, by omega, by omega, K7.out, B7.out, by have := HSL.out; rw [if_pos ⟨hlh, by first | rfl | trivial⟩] at this; exact this⟩
          · have hf' : (f == -1) = false := by simpa using hf
            go_wp2_with (go_at_call 82; with_reducible (refine CI.out.mono ?_); rintro e w6 ⟨rfl, hb6⟩; have B6 := Hid.mk' hb6; clear hb6)
            refine (add_any s W.heap.size lo hi w6 hz3 hz4 (Hid.mk' (HK.out.keep B6.out))).mono ?_
            rintro e w7 ⟨rfl, hb7, hk7⟩
            have B7 := Hid.mk' ((HB1.out.trans (B6.out.mono HB1.out.size)).trans hb7)
            have K7 := Hid.mk' hk7
            clear hb7 hk7
            go_wp2
            go_roundg m
            case measure => omega
            case rel => exact ⟨j + sz, _, f, by go_num, rfl, by omega, by omega, by omega, by omega, K7.out, B7.out, by have := HSL.out; rw [if_neg (fun h => hf h.2)] at this; exact this⟩
        · have hlh' : ¬ ((hi : Int) < (lo : Int)) := by omega
          have hlh2 : decide ((hi : Int) < (lo : Int)) = false := decide_eq_false hlh'
          go_wp2_with (go_at_call 82; with_reducible (refine CI.out.mono ?_); rintro e w6 ⟨rfl, hb6⟩; have B6 := Hid.mk' hb6; clear hb6)
          refine (add_any s W.heap.size lo hi w6 hz3 hz4 (Hid.mk' (HK.out.keep B6.out))).mono ?_
          rintro e w7 ⟨rfl, hb7, hk7⟩
          have B7 := Hid.mk' ((HB1.out.trans (B6.out.mono HB1.out.size)).trans hb7)
          have K7 := Hid.mk' hk7
          clear hb7 hk7
          go_wp2
          go_roundg m
          case measure => omega
          case rel => exact ⟨j + sz, _, f, by go_num, rfl, by omega, by omega, by omega, by omega, K7.out, B7.out, by have := HSL.out; rw [if_neg (fun h => hlh h.1)] at this; exact this⟩
      · have hjf' : ((j : Int) == ((a : Int) + 1 + 1)) = false := by simp; omega
        have hjj : (j : Int) < (n : Int) := by omega
        have dx := HC.out j hjn
        obtain ⟨y, HY⟩ : ∃ y, Hid (bn p j = y) := ⟨_, rfl⟩
        rw [HY.out] at dx
        by_cases h93 : y = 93
        · have h93' : ((y : Int) != 93) = false := by simp; omega
          have hcond : ¬ (j < p.length ∧ (j = (a + 2) ∨ bn p j ≠ 93)) := by rw [HY.out]; rintro ⟨_, h | h⟩ <;> omega
          have he := HL.out
          rw [sl_stop hcond] at he
          injection he with he1 he2
          injection he2 with he2 he3
          subst he1 he2 he3
          have d1 := keepC HB1.out c1
          have hen : j ≠ n := by omega
          have hen' : ((j : Int) == (n : Int)) = false := by simp; omega
          have k0 := HK.out.cell (wv_at _ (j := 0) (by omega))
          have k1 := HK.out.cell (wv_at _ (j := 1) (by omega))
          have k2 := HK.out.cell (wv_at _ (j := 2) (by omega))
          have k3 := HK.out.cell (wv_at _ (j := 3) (by omega))
          have CT : Hid (∀ (G : Nat → Bool) W', Rd w W' B tv (some ⟨g, o, none⟩) n c a l → Calls Try.prog 49 #[.pointer (some ⟨B, 0, none⟩), .iface 96 (.agg #[.int .u64 (wz G 0 : Int), .int .u64 (wz G 1 : Int), .int .u64 (wz G 2 : Int), .int .u64 (wz G 3 : Int)]), .int .i64 ((j : Int) + 1 - (a : Int))] W' fun e W'' => e = .returned (.tuple #[]) ∧ Hid (∃ tv', Rd w W'' B tv' (some ⟨g, o, none⟩) n c (j + 1) (l ++ [one G]))) := by
            intro G W' hr
            have h := take_any w W' B tv _ n c a (j + 1 - a) l (one G) hl ha (by omega) hr
            rw [show ((j + 1 - a : Nat) : Int) = (j : Int) + 1 - (a : Int) by omega, show a + (j + 1 - a) = j + 1 by omega] at h
            exact h
          have z0 := HK.out.frozen 0
          have z1 := HK.out.frozen 1
          have z2 := HK.out.frozen 2
          have z3 := HK.out.frozen 3
          go_wp2_with fail
          refine (others_any s _).mono ?_
          rintro e w8 ⟨rfl, hb8⟩
          replace k0 := keepC hb8 k0
          replace k1 := keepC hb8 k1
          replace k2 := keepC hb8 k2
          replace k3 := keepC hb8 k3
          replace d1 := keepC hb8 d1
          have K8 := Hid.mk' (HK.out.keep hb8)
          have B8 := Hid.mk' (bT HB1.out hb8)
          replace z0 := K8.out.frozen 0
          replace z1 := K8.out.frozen 1
          replace z2 := K8.out.frozen 2
          replace z3 := K8.out.frozen 3
          obtain ⟨NS, HNS⟩ : ∃ N : Nat → Bool, Hid (N = fun x => !s x) := ⟨_, rfl⟩
          rw [← HNS.out]
          unfold wv
          clear hb8 HB1 HK d0 HC HCW c0 c1
          go_wp2_with fail
          have P8 := Hid.mk' (put4_below B8.out (Nat.le_refl _) NS)
          have R8 := Hid.mk' (Blk.put4 (x0 := .int .u64 (wz s 0 : Int)) (x1 := .int .u64 (wz s 1 : Int)) (x2 := .int .u64 (wz s 2 : Int)) (x3 := .int .u64 (wz s 3 : Int)) K8.out NS)
          have HR8 := Hid.mk' (H.out.keep P8.out)
          change Code.wp _ _ _ _ (put4 w8 W.heap.size NS)
          clear k0 k1 k2 k3 d1 z0 z1 z2 z3 K8 B8
          generalize put4 w8 W.heap.size NS = w9 at *
          have k0 := R8.out.cell (wv_at _ (j := 0) (by omega))
          have k1 := R8.out.cell (wv_at _ (j := 1) (by omega))
          have k2 := R8.out.cell (wv_at _ (j := 2) (by omega))
          have k3 := R8.out.cell (wv_at _ (j := 3) (by omega))
          have d1 : w9.cell? ⟨B, 1, none⟩ = some (.int .i64 (a : Int)) := HR8.out.blk.cell (j := 1) rfl
          go_still_tail 11, hmx
          go_wp2_with fail
          refine (CT.out NS _ (HR8.out.keep (Below.refl _ _).drew)).mono ?_
          rintro e w10 ⟨rfl, hx⟩
          clear CT
          go_wp2
          go_ret
          try rw [if_neg hen]
          try rw [← HNS.out]
          exact ⟨rfl, hx.out⟩
        · have h93' : ((y : Int) != 93) = true := by simp; omega
          have hcond : j < p.length ∧ (j = (a + 2) ∨ bn p j ≠ 93) := ⟨by omega, .inr (by rw [HY.out]; exact h93)⟩
          have hjn' : (j : Int) < (n : Int) := by omega
          have hz := itm_size p j (by omega)
          obtain ⟨⟨lo, hi, sz⟩, HI⟩ : ∃ x, Hid (itm p j = x) := ⟨_, rfl⟩
          rw [HI.out] at hz
          dsimp only at hz
          obtain ⟨hz1, hz2, hz3, hz4⟩ := hz
          have hm0 : gk ≠ 0 := by omega
          obtain ⟨m, hm⟩ : ∃ m, gk = m + 1 := ⟨gk - 1, by omega⟩
          subst hm
          have HSL : Hid (sl p (a + 2) m (j + sz) (fun x => s x || (decide (lo ≤ x) && decide (x ≤ hi))) (if hi < lo ∧ f = -1 then (j : Int) else f) = (E, S, F)) := by
            have := HL.out; rw [sl_go hcond, HI.out] at this; exact this
          have CI := Hid.mk' (item_any g (o + j) (n - j) (c - j) j p wr (by omega) (by omega) (by omega) (Hid.mk' (by
            intro q hq; have := HC.out (j + q) (by omega); rw [← Nat.add_assoc] at this; exact this)))
          rw [HI.out] at CI
          dsimp only at CI
          have hcn : n ≤ c := HT.out.cap
          have hjl : (j : Int) ≤ (n : Int) := by omega
          clear hcond HI HL hjf
          by_cases hlh : hi < lo
          · have hlh' : (hi : Int) < (lo : Int) := by omega
            by_cases hf : f = -1
            · subst hf
              go_wp2_with (go_at_call 82; with_reducible (refine CI.out.mono ?_); rintro e w6 ⟨rfl, hb6⟩; have B6 := Hid.mk' hb6; clear hb6)
              refine (add_any s W.heap.size lo hi w6 hz3 hz4 (Hid.mk' (HK.out.keep B6.out))).mono ?_
              rintro e w7 ⟨rfl, hb7, hk7⟩
              have B7 := Hid.mk' ((HB1.out.trans (B6.out.mono HB1.out.size)).trans hb7)
              have K7 := Hid.mk' hk7
              clear hb7 hk7
              go_wp2
              go_roundg m
              case measure => omega
              case rel => exact ⟨j + sz, _, (j : Int), by go_num, rfl, by omega, by omega, by omega, by omega, K7.out, B7.out, by have := HSL.out; rw [if_pos ⟨hlh, by first | rfl | trivial⟩] at this; exact this⟩
            · have hf' : (f == -1) = false := by simpa using hf
              go_wp2_with (go_at_call 82; with_reducible (refine CI.out.mono ?_); rintro e w6 ⟨rfl, hb6⟩; have B6 := Hid.mk' hb6; clear hb6)
              refine (add_any s W.heap.size lo hi w6 hz3 hz4 (Hid.mk' (HK.out.keep B6.out))).mono ?_
              rintro e w7 ⟨rfl, hb7, hk7⟩
              have B7 := Hid.mk' ((HB1.out.trans (B6.out.mono HB1.out.size)).trans hb7)
              have K7 := Hid.mk' hk7
              clear hb7 hk7
              go_wp2
              go_roundg m
              case measure => omega
              case rel => exact ⟨j + sz, _, f, by go_num, rfl, by omega, by omega, by omega, by omega, K7.out, B7.out, by have := HSL.out; rw [if_neg (fun h => hf h.2)] at this; exact this⟩
          · have hlh' : ¬ ((hi : Int) < (lo : Int)) := by omega
            have hlh2 : decide ((hi : Int) < (lo : Int)) = false := decide_eq_false hlh'
            go_wp2_with (go_at_call 82; with_reducible (refine CI.out.mono ?_); rintro e w6 ⟨rfl, hb6⟩; have B6 := Hid.mk' hb6; clear hb6)
            refine (add_any s W.heap.size lo hi w6 hz3 hz4 (Hid.mk' (HK.out.keep B6.out))).mono ?_
            rintro e w7 ⟨rfl, hb7, hk7⟩
            have B7 := Hid.mk' ((HB1.out.trans (B6.out.mono HB1.out.size)).trans hb7)
            have K7 := Hid.mk' hk7
            clear hb7 hk7
            go_wp2
            go_roundg m
            case measure => omega
            case rel => exact ⟨j + sz, _, f, by go_num, rfl, by omega, by omega, by omega, by omega, K7.out, B7.out, by have := HSL.out; rw [if_neg (fun h => hlh h.1)] at this; exact this⟩
    · have hjn' : ¬ ((j : Int) < (n : Int)) := by omega
      have hjn2 : decide ((j : Int) < (n : Int)) = false := decide_eq_false hjn'
      have hcond : ¬ (j < p.length ∧ (j = (a + 2) ∨ bn p j ≠ 93)) := fun h => by omega
      have he := HL.out
      rw [sl_stop hcond] at he
      injection he with he1 he2
      injection he2 with he2 he3
      subst he1 he2 he3
      have d1 := keepC HB1.out c1
      have hen : j = n := by omega
      have hen' : ((j : Int) == (n : Int)) = true := by simp; omega
      have HEN := Hid.mk' hen
      clear hen
      go_wp2
      go_ret
      try rw [if_pos HEN.out]
      exact ⟨rfl, tv, H.out.keep HB1.out⟩
end Go.Proofs.Ytaakgoojcogbcaa
