/- BlockStops walked: the paragraphs' stops, none left out. -/
import Derived.Test.YtkapddemgodamaaDoorAwk
namespace Go.Proofs.YtkapddemgodamaaDoor
open Go.RowKit

/-- an empty line begins at a place, in the law's own words -/
theorem bg_iff {l : List UInt8} {k : Nat} (h : 0 < k) : bg l k = k ↔ bi l (k - 1) = 10 := by
  constructor
  · intro e
    cases hb : (((at8 l (k - 1)).toNat : Int) == 10) with
    | true => exact eq_of_beq hb
    | false => exact absurd e (bg_no h hb)
  · intro e
    exact bg_yes h (beq_iff_eq.2 e)
theorem le_bi (l : List UInt8) (k : Nat) : le (at8 l k) = decide (bi l k = 10) := by
  unfold le bi
  by_cases h : ((at8 l k).toNat : Int) = 10
  · rw [decide_eq_true h]; simpa using h
  · rw [decide_eq_false h]; simpa using h
theorem el_iff {l : List UInt8} {k : Nat} (hk : k ≤ l.length) : el l k = true ↔ (k = l.length ∨ bi l k = 10) ∧ (k = 0 ∨ bi l (k - 1) = 10) := by
  have hka : ka l k = 3 ↔ (k = l.length ∨ bi l k = 10) := by
    rcases Nat.lt_or_ge k l.length with h | h
    · rw [ka_lt h, kd_three]; constructor
      · exact fun e => .inr e
      · rintro (e | e); omega; exact e
    · rw [ka_end h]; exact ⟨fun _ => .inl (by omega), fun _ => rfl⟩
  unfold el
  rw [Bool.and_eq_true, decide_eq_true_iff, decide_eq_true_iff, hka]
  constructor
  · rintro ⟨h1, h2⟩
    refine ⟨h1, ?_⟩
    rcases Nat.eq_zero_or_pos k with h0 | h0
    · exact .inl h0
    · right
      unfold rs at h2
      split at h2
      · next hc =>
        rcases hc with ⟨hc1, hc2⟩ | hc
        · rw [le_bi] at hc2; rcases h1 with e | e; omega; simp [e] at hc2
        · exact (bg_iff h0).1 hc
      · omega
  · rintro ⟨h1, h2⟩
    refine ⟨h1, ?_⟩
    unfold rs
    rcases Nat.eq_zero_or_pos k with h0 | h0
    · subst h0; simp
    · have : bg l k = k := (bg_iff h0).2 (by rcases h2 with e | e; omega; exact e)
      rw [if_pos (.inr this)]
/-- down: the law's question -/
def dnQ (l : List UInt8) (k : Nat) : Bool := decide (2 ≤ k ∧ bi l (k - 1) = 10 ∧ bi l (k - 2) ≠ 10 ∧ (k = l.length ∨ bi l k = 10))
def upQ (l : List UInt8) (k : Nat) : Bool := decide (k + 1 < l.length ∧ bi l k = 10 ∧ bi l (k + 1) ≠ 10 ∧ (k = 0 ∨ bi l (k - 1) = 10))
theorem be_dn {l : List UInt8} {k : Nat} (h1 : 1 ≤ k) (hk : k ≤ l.length) : be l k = dnQ l k := by
  have e1 := el_iff hk
  have e2 := el_iff (l := l) (k := k - 1) (by omega)
  unfold be dnQ
  rw [Bool.eq_iff_iff, Bool.and_eq_true, Bool.not_eq_true', decide_eq_true_iff, e1, ← Bool.not_eq_true, e2]
  rw [show k - 1 - 1 = k - 2 by omega]
  constructor
  · rintro ⟨⟨g1, g2⟩, g3⟩
    have g2' : bi l (k - 1) = 10 := by rcases g2 with e | e; omega; exact e
    refine ⟨?_, g2', fun e => g3 ⟨.inr g2', .inr e⟩, g1⟩
    rcases Nat.lt_or_ge k 2 with h | h
    · exact absurd ⟨.inr g2', .inl (by omega)⟩ g3
    · exact h
  · rintro ⟨g1, g2, g3, g4⟩
    refine ⟨⟨g4, .inr g2⟩, ?_⟩
    rintro ⟨-, e | e⟩
    · omega
    · exact g3 e
theorem ee_up {l : List UInt8} {k : Nat} (hk : k + 1 ≤ l.length) : ee l k = upQ l k := by
  have e1 := el_iff (l := l) (k := k) (by omega)
  have e2 := el_iff hk
  unfold ee upQ
  rw [Bool.eq_iff_iff, Bool.and_eq_true, Bool.not_eq_true', decide_eq_true_iff, e1, ← Bool.not_eq_true, e2]
  rw [Nat.add_sub_cancel]
  constructor
  · rintro ⟨⟨g1, g2⟩, g3⟩
    have g1' : bi l k = 10 := by rcases g1 with e | e; omega; exact e
    have g4 : ¬ (k + 1 = l.length ∨ bi l (k + 1) = 10) := fun e => g3 ⟨e, .inr g1'⟩
    refine ⟨?_, g1', fun e => g4 (.inr e), g2⟩
    rcases Nat.lt_or_ge (k + 1) l.length with h | h
    · exact h
    · exact absurd (.inl (by omega)) g4
  · rintro ⟨g1, g2, g3, g4⟩
    refine ⟨⟨.inr g2, g4⟩, ?_⟩
    rintro ⟨e | e, -⟩
    · omega
    · exact g3 e
/-- a step leads to the first stop, or to the end -/
theorem nu_stop (P : Nat → Bool) : ∀ g q, nu P g q = q + g ∨ P (nu P g q) = true
  | 0, q => .inl rfl
  | g + 1, q => by
    unfold nu
    split
    · next h => exact .inr h
    · rcases nu_stop P g (q + 1) with h | h
      · exact .inl (by omega)
      · exact .inr h
theorem nu_none (P : Nat → Bool) : ∀ g q j, q ≤ j → j < nu P g q → P j = false
  | 0, q, j, h1, h2 => by simp [nu] at h2; omega
  | g + 1, q, j, h1, h2 => by
    unfold nu at h2
    split at h2
    · omega
    · next h =>
      rcases Nat.eq_or_lt_of_le h1 with e | e
      · subst e; simpa using h
      · exact nu_none P g (q + 1) j (by omega) h2
theorem nd_stop (P : Nat → Bool) : ∀ q, nd P q = 0 ∨ P (nd P q) = true
  | 0 => .inl rfl
  | q + 1 => by
    unfold nd
    split
    · next h => exact .inr h
    · exact nd_stop P q
theorem nd_none (P : Nat → Bool) : ∀ q j, nd P q < j → j ≤ q → P j = false
  | 0, j, h1, h2 => by omega
  | q + 1, j, h1, h2 => by
    unfold nd at h1
    split at h1
    · omega
    · next h =>
      rcases Nat.eq_or_lt_of_le h2 with e | e
      · subst e; simpa using h
      · exact nd_none P q j h1 (by omega)

theorem cell_bi {w : World} {g o n c : Nat} {l : List UInt8} (h : Tx w (some ⟨g, o, none⟩) n c l) {j : Nat} (hj : j < n) : w.cell? ⟨g, o + j, none⟩ = some (.int .u8 (bi l j)) := by
  have := h.cells _ rfl j hj; rwa [add_none] at this
set_option maxHeartbeats 2000000 in
theorem down_any {gb : Nat} {ao : Option Addr} {n c k : Nat} {l : List UInt8} {w : World} (h1 : 1 ≤ k) (hk : k ≤ n) (hb : w.cell? ⟨gb, 0, none⟩ = some (.slice ao n c)) (HT : Hid (Tx w ao n c l)) :
    Calls Tryd.prog 15 #[.int .i64 k, .pointer (some ⟨gb, 0, none⟩)] w fun e w' => e = .returned (.bool (dnQ l k)) ∧ w' = w := by
  have hl := HT.out.len
  have hbig := HT.out.big
  obtain ⟨g, o, rfl, hcl⟩ := HT.out.at (by omega)
  clear hcl
  rcases Nat.lt_or_ge k 2 with h2 | h2
  · obtain rfl : k = 1 := by omega
    have HR : Hid (dnQ l 1 = false) := by unfold Hid dnQ; simp
    generalize dnQ l 1 = r at *
    go_enter Tryd.func15, Tryd.ntmps15
    go_wp2
    go_ret
    exact ⟨by rw [HR.out]; rfl, rfl⟩
  · have c1 := cell_bi HT.out (j := k - 1) (by omega)
    have c2 := cell_bi HT.out (j := k - 2) (by omega)
    have hw1 : IntKind.i64.wrap ((k : Int) - 1) = ((k - 1 : Nat) : Int) := by rw [IntKind.wrap_i64]; omega
    have hw2 : IntKind.i64.wrap ((k : Int) - 2) = ((k - 2 : Nat) : Int) := by rw [IntKind.wrap_i64]; omega
    have a1 : (0 : Int) ≤ ((k - 1 : Nat) : Int) := by omega
    have a2 : ((k - 1 : Nat) : Int) < (n : Int) := by omega
    have a3 : (0 : Int) ≤ ((k - 2 : Nat) : Int) := by omega
    have a4 : ((k - 2 : Nat) : Int) < (n : Int) := by omega
    have a5 : (2 : Int) ≤ (k : Int) := by omega
    have HR : Hid (dnQ l k = ((bi l (k - 1) == 10) && (bi l (k - 2) != 10) && (((k : Int) == (n : Int)) || (bi l k == 10)))) := by
      unfold Hid dnQ
      rw [Bool.eq_iff_iff]
      simp only [decide_eq_true_iff, Bool.and_eq_true, Bool.or_eq_true, beq_iff_eq, bne_iff_ne, hl]
      constructor
      · rintro ⟨_, g1, g2, g3⟩; exact ⟨⟨g1, g2⟩, by rcases g3 with e | e; exact .inl (by omega); exact .inr e⟩
      · rintro ⟨⟨g1, g2⟩, g3⟩; exact ⟨h2, g1, g2, by rcases g3 with e | e; exact .inl (by omega); exact .inr e⟩
    generalize dnQ l k = r at *
    generalize bi l (k - 1) = x1 at *
    generalize bi l (k - 2) = x2 at *
    generalize k - 1 = k1 at *
    generalize k - 2 = k2 at *
    rcases Nat.lt_or_ge k n with h3 | h3
    · have c0 := cell_bi HT.out h3
      have a6 : (0 : Int) ≤ (k : Int) := by omega
      have a7 : (k : Int) < (n : Int) := by omega
      have a8 : ((k : Int) == (n : Int)) = false := by simp; omega
      rw [a8] at HR
      generalize bi l k = x0 at *
      cases hx1 : x1 == 10 with
      | false =>
        rw [hx1] at HR
        go_enter Tryd.func15, Tryd.ntmps15
        go_wp2
        go_ret
        exact ⟨by rw [HR.out]; rfl, rfl⟩
      | true =>
        cases hx2 : x2 != 10 with
        | false =>
          rw [hx1, hx2] at HR
          go_enter Tryd.func15, Tryd.ntmps15
          go_wp2
          go_ret
          exact ⟨by rw [HR.out]; rfl, rfl⟩
        | true =>
          rw [hx1, hx2] at HR
          go_enter Tryd.func15, Tryd.ntmps15
          go_wp2
          go_ret
          exact ⟨by rw [HR.out]; rfl, rfl⟩
    · obtain rfl : k = n := by omega
      cases hx1 : x1 == 10 with
      | false =>
        rw [hx1] at HR
        go_enter Tryd.func15, Tryd.ntmps15
        go_wp2
        go_ret
        exact ⟨by rw [HR.out]; rfl, rfl⟩
      | true =>
        cases hx2 : x2 != 10 with
        | false =>
          rw [hx1, hx2] at HR
          go_enter Tryd.func15, Tryd.ntmps15
          go_wp2
          go_ret
          exact ⟨by rw [HR.out]; rfl, rfl⟩
        | true =>
          rw [hx1, hx2] at HR
          have HR' : Hid (r = true) := by unfold Hid; rw [HR.out]; simp
          go_enter Tryd.func15, Tryd.ntmps15
          go_wp2
          go_ret
          exact ⟨by rw [HR'.out]; rfl, rfl⟩
set_option maxHeartbeats 2000000 in
theorem up_any {gb : Nat} {ao : Option Addr} {n c k : Nat} {l : List UInt8} {w : World} (hk : k + 1 ≤ n) (hb : w.cell? ⟨gb, 0, none⟩ = some (.slice ao n c)) (HT : Hid (Tx w ao n c l)) :
    Calls Tryd.prog 16 #[.int .i64 k, .pointer (some ⟨gb, 0, none⟩)] w fun e w' => e = .returned (.bool (upQ l k)) ∧ w' = w := by
  have hl := HT.out.len
  have hbig := HT.out.big
  obtain ⟨g, o, rfl, hcl⟩ := HT.out.at (by omega)
  clear hcl
  have hw1 : IntKind.i64.wrap ((k : Int) + 1) = ((k + 1 : Nat) : Int) := by rw [IntKind.wrap_i64]; omega
  rcases Nat.lt_or_ge (k + 1) n with h2 | h2
  · have c1 := cell_bi HT.out (j := k) (by omega)
    have c2 := cell_bi HT.out (j := k + 1) (by omega)
    have a1 : (0 : Int) ≤ (k : Int) := by omega
    have a2 : (k : Int) < (n : Int) := by omega
    have a3 : (0 : Int) ≤ ((k + 1 : Nat) : Int) := by omega
    have a4 : ((k + 1 : Nat) : Int) < (n : Int) := by omega
    have HR : Hid (upQ l k = ((bi l k == 10) && (bi l (k + 1) != 10) && (((k : Int) == 0) || (bi l (k - 1) == 10)))) := by
      unfold Hid upQ
      rw [Bool.eq_iff_iff]
      simp only [decide_eq_true_iff, Bool.and_eq_true, Bool.or_eq_true, beq_iff_eq, bne_iff_ne, hl]
      constructor
      · rintro ⟨_, g1, g2, g3⟩; exact ⟨⟨g1, g2⟩, by rcases g3 with e | e; exact .inl (by omega); exact .inr e⟩
      · rintro ⟨⟨g1, g2⟩, g3⟩; exact ⟨h2, g1, g2, by rcases g3 with e | e; exact .inl (by omega); exact .inr e⟩
    generalize upQ l k = r at *
    rcases Nat.eq_zero_or_pos k with h3 | h3
    · have a8 : ((k : Int) == 0) = true := by simp; omega
      rw [a8, Bool.true_or] at HR
      clear h3
      generalize bi l (k + 1) = x2 at *
      generalize bi l k = x1 at *
      generalize k + 1 = k2 at *
      cases hx1 : x1 == 10 with
      | false =>
        rw [hx1] at HR
        go_enter Tryd.func16, Tryd.ntmps16
        go_wp2
        go_ret
        exact ⟨by rw [HR.out]; rfl, rfl⟩
      | true =>
        cases hx2 : x2 != 10 with
        | false =>
          rw [hx1, hx2] at HR
          go_enter Tryd.func16, Tryd.ntmps16
          go_wp2
          go_ret
          exact ⟨by rw [HR.out]; rfl, rfl⟩
        | true =>
          rw [hx1, hx2] at HR
          go_enter Tryd.func16, Tryd.ntmps16
          go_wp2
          go_ret
          exact ⟨by rw [HR.out]; rfl, rfl⟩
    · have c0 := cell_bi HT.out (j := k - 1) (by omega)
      have hw0 : IntKind.i64.wrap ((k : Int) - 1) = ((k - 1 : Nat) : Int) := by rw [IntKind.wrap_i64]; omega
      have a6 : (0 : Int) ≤ ((k - 1 : Nat) : Int) := by omega
      have a7 : ((k - 1 : Nat) : Int) < (n : Int) := by omega
      have a8 : ((k : Int) == 0) = false := by simp; omega
      rw [a8] at HR
      generalize bi l (k - 1) = x0 at *
      generalize bi l (k + 1) = x2 at *
      generalize bi l k = x1 at *
      generalize k - 1 = k0 at *
      generalize k + 1 = k2 at *
      cases hx1 : x1 == 10 with
      | false =>
        rw [hx1] at HR
        go_enter Tryd.func16, Tryd.ntmps16
        go_wp2
        go_ret
        exact ⟨by rw [HR.out]; rfl, rfl⟩
      | true =>
        cases hx2 : x2 != 10 with
        | false =>
          rw [hx1, hx2] at HR
          go_enter Tryd.func16, Tryd.ntmps16
          go_wp2
          go_ret
          exact ⟨by rw [HR.out]; rfl, rfl⟩
        | true =>
          rw [hx1, hx2] at HR
          go_enter Tryd.func16, Tryd.ntmps16
          go_wp2
          go_ret
          exact ⟨by rw [HR.out]; rfl, rfl⟩
  · have HR : Hid (upQ l k = false) := by unfold Hid upQ; simp only [decide_eq_false_iff_not, hl]; omega
    have a4 : ¬ (((k + 1 : Nat) : Int) < (n : Int)) := by omega
    generalize upQ l k = r at *
    generalize k + 1 = k2 at *
    go_enter Tryd.func16, Tryd.ntmps16
    go_wp2
    go_ret
    exact ⟨by rw [HR.out]; rfl, rfl⟩

theorem mv125 {l : List UInt8} {p : Nat} (hp : p ≤ l.length) : mv l p 1 { data := #[125] } = mvE p 1 (su (be l) l.length p) := by
  rw [show (1 : Int) = ((1 : Nat) : Int) by rfl, mv_ok kn125 hp (by decide) (by decide) (by decide)]
  unfold mvk kdk it
  rw [if_pos rfl, if_neg (by decide)]
  cases su (be l) l.length p <;> rfl
theorem mv123 {l : List UInt8} {p : Nat} (hp : p ≤ l.length) : mv l p 1 { data := #[123] } = mvE p 1 (sd (ee l) p) := by
  rw [show (1 : Int) = ((1 : Nat) : Int) by rfl, mv_ok kn123 hp (by decide) (by decide) (by decide)]
  unfold mvk kdk it
  rw [if_neg (by decide), if_pos rfl, if_neg (by decide)]
  cases sd (ee l) p <;> rfl
set_option maxRecDepth 8000 in
set_option maxHeartbeats 4000000 in
theorem stops_walk (ao : Option Addr) (n c : Nat) (i : Int) (l : List UInt8) (w : World) (h1 : -9223372036854775808 ≤ i) (h2 : i ≤ 9223372036854775807) (hn : n < 140737488355328) (HG : Hid (Gl w)) (HT : Hid (Tx w ao n c l)) :
    Calls Tryd.prog 6 #[.slice ao n c, .int .i64 i] w fun e w' => e = .returned (.bool true) ∧ Below w.heap.size w w' := by
  have hl := HT.out.len
  have hw0 : IntKind.i64.wrap ((n : Int) + 1) = (n : Int) + 1 := by rw [IntKind.wrap_i64]; omega
  have PL := Hid.mk' (fun W => place_any i (n + 1) W h1 h2 (by omega) (by omega))
  rw [show ((n + 1 : Nat) : Int) = (n : Int) + 1 by omega] at PL
  go_enter Tryd.func6, Tryd.ntmps6
  go_wp2_with fail
  refine (awake_any _ (Hid.mk' (HG.out.keep (bAlloc (Below.refl _ _) _)))).mono ?_
  rintro e w1 ⟨rfl, hb1⟩
  have B1 := Hid.mk' (bT (bAlloc (Below.refl w.heap.size w) (.cells #[.slice ao n c] 22)) hb1)
  have k0 : w1.cell? ⟨w.heap.size, 0, none⟩ = some (.slice ao n c) := keepC hb1 (by simp [go_sem])
  clear hb1
  go_wp2_with fail
  refine (PL.out w1).mono ?_
  rintro e w' ⟨⟨p, hp, rfl⟩, hq⟩
  have hq2 := hq.symm; subst hq2; clear hq
  go_wp2_with fail
  refine (move_any _ _ _ _ _ _ l _ (Hid.mk' (snts_no (by rw [kn125]; decide))) (Hid.mk' (HT.out.keep B1.out))).mono ?_
  rintro e w2 ⟨rfl, hb2⟩
  rw [mv125 (by omega)]
  have B2 := Hid.mk' (bT B1.out hb2)
  replace k0 := keepC hb2 k0
  have hz := lt_of_cell k0
  clear hb2 B1
  rw [hl]
  have hp0 : (0 : Int) ≤ (p : Int) := by omega
  have hpb : (p : Int) ≤ 140737488355328 := by omega
  by_cases hpn : p = n
  · by_cases hpz : p = 0
    · rw [show su (be l) n p = none by unfold su; rw [if_pos hpn]]
      have bn : ((p : Int) == (n : Int)) = true := by simp; omega
      have HSB : Hid (sd (ee l) p = none) := by unfold Hid sd; rw [if_pos hpz]
      have bz : ((p : Int) == 0) = true := by simp; omega
      have HPN := Hid.mk' hpn
      have HPZ := Hid.mk' hpz
      clear hpn hpz
      unfold mvE
      dsimp only
      go_wp2_with fail
      have T0 := Hid.mk' (Blk.new w2 30 #[.int .i64 0, .int .i64 0, .int .i64 0])
      refine (move_any _ _ _ _ _ _ l _ (Hid.mk' (snts_no (by rw [kn123]; decide))) (Hid.mk' (HT.out.keep (bAlloc B2.out _)))).mono ?_
      rintro e w3 ⟨rfl, hb3⟩
      rw [mv123 (by omega), HSB.out]
      have B3 := Hid.mk' (bT (bAlloc B2.out _) hb3)
      have k3 := keepC hb3 (show (w2.alloc (.cells #[.int .i64 0, .int .i64 0, .int .i64 0] 30)).cell? ⟨w.heap.size, 0, none⟩ = some (.slice ao n c) from keepC (bAlloc (Below.refl _ _) _) k0)
      have T3 := Hid.mk' (T0.out.keep hb3)
      clear hb3 T0 k0
      unfold mvE
      dsimp only
      have k4 : (w3.alloc (.cells #[.int .i64 0, .int .i64 0, .int .i64 0] 30)).cell? ⟨w.heap.size, 0, none⟩ = some (.slice ao n c) := keepC (bAlloc (Below.refl _ _) _) k3
      have B4 := Hid.mk' (bAlloc B3.out (.cells #[.int .i64 0, .int .i64 0, .int .i64 0] 30))
      have T4 := Hid.mk' (HT.out.keep B4.out)
      have hz3 := lt_of_cell k3
      clear k3 B3 T3
      go_upto_region 8 with fail
      generalize w3.alloc (.cells #[.int .i64 0, .int .i64 0, .int .i64 0] 30) = W4 at *
      generalize w3.heap.size = G3 at *
      generalize w2.heap.size = G2 at *
      go_wp2
      go_ret
      exact ⟨rfl, B4.out⟩
    · rw [show su (be l) n p = none by unfold su; rw [if_pos hpn]]
      have bn : ((p : Int) == (n : Int)) = true := by simp; omega
      obtain ⟨b, hb⟩ : ∃ b, b = nd (ee l) (p - 1) := ⟨_, rfl⟩
      have hb1 := nd_le (ee l) (p - 1)
      have hb2 := nd_stop (ee l) (p - 1)
      have hb3 := nd_none (ee l) (p - 1)
      rw [← hb] at hb1 hb2 hb3
      have HSB : Hid (sd (ee l) p = some b) := by unfold Hid sd; rw [if_neg hpz, ← hb]
      have HSU : Hid (b ≠ 0 → upQ l b = true) := fun h => by rw [← ee_up (by omega)]; rcases hb2 with e | e; omega; exact e
      have HNU : Hid (∀ j, b + 1 ≤ j → j < p → upQ l j = false) := fun j h1 h2 => by rw [← ee_up (by omega)]; exact hb3 j (by omega) (by omega)
      have bz : ((p : Int) == 0) = false := by simp; omega
      have u1 : ¬ ((p : Int) ≤ (b : Int)) := by omega
      have u2 : ¬ ((b : Int) < 0) := by omega
      have u3 : (b : Int) ≤ 140737488355328 := by omega
      have u4 : decide (p ≤ b) = false := by simp; omega
      have u5 : decide ((b : Int) < 0) = false := by simp
      have hbp : b < p := by omega
      clear hb hb2 hb3
      have HPN := Hid.mk' hpn
      have HPZ := Hid.mk' hpz
      clear hpn hpz
      unfold mvE
      dsimp only
      go_wp2_with fail
      have T0 := Hid.mk' (Blk.new w2 30 #[.int .i64 0, .int .i64 0, .int .i64 0])
      refine (move_any _ _ _ _ _ _ l _ (Hid.mk' (snts_no (by rw [kn123]; decide))) (Hid.mk' (HT.out.keep (bAlloc B2.out _)))).mono ?_
      rintro e w3 ⟨rfl, hb3⟩
      rw [mv123 (by omega), HSB.out]
      have B3 := Hid.mk' (bT (bAlloc B2.out _) hb3)
      have k3 := keepC hb3 (show (w2.alloc (.cells #[.int .i64 0, .int .i64 0, .int .i64 0] 30)).cell? ⟨w.heap.size, 0, none⟩ = some (.slice ao n c) from keepC (bAlloc (Below.refl _ _) _) k0)
      have T3 := Hid.mk' (T0.out.keep hb3)
      clear hb3 T0 k0
      unfold mvE
      dsimp only
      have k4 : (w3.alloc (.cells #[.int .i64 p, .int .i64 b, .int .i64 1] 30)).cell? ⟨w.heap.size, 0, none⟩ = some (.slice ao n c) := keepC (bAlloc (Below.refl _ _) _) k3
      have B4 := Hid.mk' (bAlloc B3.out (.cells #[.int .i64 p, .int .i64 b, .int .i64 1] 30))
      have T4 := Hid.mk' (HT.out.keep B4.out)
      have cb : (w3.alloc (.cells #[.int .i64 p, .int .i64 b, .int .i64 1] 30)).cell? ⟨w3.heap.size, 1, none⟩ = some (.int .i64 b) := (Blk.new w3 30 #[.int .i64 p, .int .i64 b, .int .i64 1]).cell rfl
      have hz3 := lt_of_cell k3
      clear k3 B3 T3
      go_upto_region 8 with fail
      generalize w3.alloc (.cells #[.int .i64 p, .int .i64 b, .int .i64 1] 30) = W4 at *
      generalize w3.heap.size = G3 at *
      generalize w2.heap.size = G2 at *
      by_cases hbz : b = 0
      · have hb1 : ((b : Int) != 0) = false := by simp; omega
        clear hbz
        go_wp2
        go_loopg [13] (p - (b + 1)) (fun g x13 wx => ∃ j : Nat, x13 = .int .i64 j ∧ j + g = p ∧ b + 1 ≤ j ∧ W4 = wx)
        case atStart => exact ⟨b + 1, by go_num, by omega, by omega, rfl⟩
        case round =>
          obtain ⟨j, rfl, hj, hj2, rfl⟩ := hrel
          have hj0 : (0 : Int) ≤ (j : Int) := by omega
          have hjb : (j : Int) ≤ 140737488355328 := by omega
          cases gk with
          | succ g =>
            have hlt : (j : Int) < (p : Int) := by omega
            have C1 := Hid.mk' (up_any (k := j) (by omega) k4 T4)
            rw [HNU.out j (by omega) (by omega)] at C1
            go_wp2_with fail
            refine C1.out.mono ?_
            rintro e w' ⟨rfl, hq⟩
            have hq2 := hq.symm; subst hq2; clear hq
            go_wp2
            go_roundg g
            case measure => omega
            case rel => exact ⟨j + 1, by go_num, by omega, by omega, rfl⟩
          | zero =>
            have hlt : ¬ ((j : Int) < (p : Int)) := by omega
            go_wp2
            go_ret
            exact ⟨rfl, B4.out⟩
      · have hb1 : ((b : Int) != 0) = true := by simp; omega
        have C0 := Hid.mk' (up_any (k := b) (by omega) k4 T4)
        rw [HSU.out hbz] at C0
        clear hbz
        go_wp2_with fail
        refine C0.out.mono ?_
        rintro e w' ⟨rfl, hq⟩
        have hq2 := hq.symm; subst hq2; clear hq
        go_wp2
        go_loopg [13] (p - (b + 1)) (fun g x13 wx => ∃ j : Nat, x13 = .int .i64 j ∧ j + g = p ∧ b + 1 ≤ j ∧ W4 = wx)
        case atStart => exact ⟨b + 1, by go_num, by omega, by omega, rfl⟩
        case round =>
          obtain ⟨j, rfl, hj, hj2, rfl⟩ := hrel
          have hj0 : (0 : Int) ≤ (j : Int) := by omega
          have hjb : (j : Int) ≤ 140737488355328 := by omega
          cases gk with
          | succ g =>
            have hlt : (j : Int) < (p : Int) := by omega
            have C1 := Hid.mk' (up_any (k := j) (by omega) k4 T4)
            rw [HNU.out j (by omega) (by omega)] at C1
            go_wp2_with fail
            refine C1.out.mono ?_
            rintro e w' ⟨rfl, hq⟩
            have hq2 := hq.symm; subst hq2; clear hq
            go_wp2
            go_roundg g
            case measure => omega
            case rel => exact ⟨j + 1, by go_num, by omega, by omega, rfl⟩
          | zero =>
            have hlt : ¬ ((j : Int) < (p : Int)) := by omega
            go_wp2
            go_ret
            exact ⟨rfl, B4.out⟩
  · by_cases hpz : p = 0
    · obtain ⟨a, ha⟩ : ∃ a, a = nu (be l) (n - (p + 1)) (p + 1) := ⟨_, rfl⟩
      have ha1 := nu_le (be l) (n - (p + 1)) (p + 1)
      have ha2 := nu_stop (be l) (n - (p + 1)) (p + 1)
      have ha3 := nu_none (be l) (n - (p + 1)) (p + 1)
      rw [← ha] at ha1 ha2 ha3
      have e1 : su (be l) n p = some a := by unfold su; rw [if_neg hpn, ← ha]
      rw [e1]
      have HSD : Hid (a ≠ n → dnQ l a = true) := fun h => by rw [← be_dn (by omega) (by omega)]; rcases ha2 with e | e; omega; exact e
      have HND : Hid (∀ j, p + 1 ≤ j → j < a → dnQ l j = false) := fun j h1 h2 => by rw [← be_dn (by omega) (by omega)]; exact ha3 j h1 h2
      have bn : ((p : Int) == (n : Int)) = false := by simp; omega
      have g1 : ¬ ((a : Int) ≤ (p : Int)) := by omega
      have g2 : ¬ ((n : Int) < (a : Int)) := by omega
      have g3 : (a : Int) ≤ 140737488355328 := by omega
      have g4 : decide (a ≤ p) = false := by simp; omega
      have g5 : decide (n < a) = false := by simp; omega
      clear ha e1 ha2 ha3
      have HSB : Hid (sd (ee l) p = none) := by unfold Hid sd; rw [if_pos hpz]
      have bz : ((p : Int) == 0) = true := by simp; omega
      have HPN := Hid.mk' hpn
      have HPZ := Hid.mk' hpz
      clear hpn hpz
      unfold mvE
      dsimp only
      go_wp2_with fail
      have T0 := Hid.mk' (Blk.new w2 30 #[.int .i64 p, .int .i64 a, .int .i64 1])
      refine (move_any _ _ _ _ _ _ l _ (Hid.mk' (snts_no (by rw [kn123]; decide))) (Hid.mk' (HT.out.keep (bAlloc B2.out _)))).mono ?_
      rintro e w3 ⟨rfl, hb3⟩
      rw [mv123 (by omega), HSB.out]
      have B3 := Hid.mk' (bT (bAlloc B2.out _) hb3)
      have k3 := keepC hb3 (show (w2.alloc (.cells #[.int .i64 p, .int .i64 a, .int .i64 1] 30)).cell? ⟨w.heap.size, 0, none⟩ = some (.slice ao n c) from keepC (bAlloc (Below.refl _ _) _) k0)
      have T3 := Hid.mk' (T0.out.keep hb3)
      clear hb3 T0 k0
      unfold mvE
      dsimp only
      have k4 : (w3.alloc (.cells #[.int .i64 0, .int .i64 0, .int .i64 0] 30)).cell? ⟨w.heap.size, 0, none⟩ = some (.slice ao n c) := keepC (bAlloc (Below.refl _ _) _) k3
      have B4 := Hid.mk' (bAlloc B3.out (.cells #[.int .i64 0, .int .i64 0, .int .i64 0] 30))
      have T4 := Hid.mk' (HT.out.keep B4.out)
      have ca : (w3.alloc (.cells #[.int .i64 0, .int .i64 0, .int .i64 0] 30)).cell? ⟨w2.heap.size, 1, none⟩ = some (.int .i64 a) := keepC (bAlloc (Below.refl _ _) _) (T3.out.cell rfl)
      have hz3 := lt_of_cell k3
      clear k3 B3 T3
      go_upto_region 8 with fail
      generalize w3.alloc (.cells #[.int .i64 0, .int .i64 0, .int .i64 0] 30) = W4 at *
      generalize w3.heap.size = G3 at *
      generalize w2.heap.size = G2 at *
      by_cases han : a = n
      · have hb1 : ((a : Int) != (n : Int)) = false := by simp; omega
        clear han
        go_wp2
        go_loopg [12] (a - (p + 1)) (fun g x12 wx => ∃ j : Nat, x12 = .int .i64 j ∧ j + g = a ∧ p + 1 ≤ j ∧ W4 = wx)
        case atStart => exact ⟨p + 1, by go_num, by omega, by omega, rfl⟩
        case round =>
          obtain ⟨j, rfl, hj, hj2, rfl⟩ := hrel
          have hj0 : (0 : Int) ≤ (j : Int) := by omega
          have hjb : (j : Int) ≤ 140737488355328 := by omega
          cases gk with
          | succ g =>
            have hlt : (j : Int) < (a : Int) := by omega
            have C1 := Hid.mk' (down_any (k := j) (by omega) (by omega) k4 T4)
            rw [HND.out j (by omega) (by omega)] at C1
            go_wp2_with fail
            refine C1.out.mono ?_
            rintro e w' ⟨rfl, hq⟩
            have hq2 := hq.symm; subst hq2; clear hq
            go_wp2
            go_roundg g
            case measure => omega
            case rel => exact ⟨j + 1, by go_num, by omega, by omega, rfl⟩
          | zero =>
            have hlt : ¬ ((j : Int) < (a : Int)) := by omega
            go_wp2
            go_ret
            exact ⟨rfl, B4.out⟩
      · have hb1 : ((a : Int) != (n : Int)) = true := by simp; omega
        have C0 := Hid.mk' (down_any (k := a) (by omega) (by omega) k4 T4)
        rw [HSD.out han] at C0
        clear han
        go_wp2_with fail
        refine C0.out.mono ?_
        rintro e w' ⟨rfl, hq⟩
        have hq2 := hq.symm; subst hq2; clear hq
        go_wp2
        go_loopg [12] (a - (p + 1)) (fun g x12 wx => ∃ j : Nat, x12 = .int .i64 j ∧ j + g = a ∧ p + 1 ≤ j ∧ W4 = wx)
        case atStart => exact ⟨p + 1, by go_num, by omega, by omega, rfl⟩
        case round =>
          obtain ⟨j, rfl, hj, hj2, rfl⟩ := hrel
          have hj0 : (0 : Int) ≤ (j : Int) := by omega
          have hjb : (j : Int) ≤ 140737488355328 := by omega
          cases gk with
          | succ g =>
            have hlt : (j : Int) < (a : Int) := by omega
            have C1 := Hid.mk' (down_any (k := j) (by omega) (by omega) k4 T4)
            rw [HND.out j (by omega) (by omega)] at C1
            go_wp2_with fail
            refine C1.out.mono ?_
            rintro e w' ⟨rfl, hq⟩
            have hq2 := hq.symm; subst hq2; clear hq
            go_wp2
            go_roundg g
            case measure => omega
            case rel => exact ⟨j + 1, by go_num, by omega, by omega, rfl⟩
          | zero =>
            have hlt : ¬ ((j : Int) < (a : Int)) := by omega
            go_wp2
            go_ret
            exact ⟨rfl, B4.out⟩
    · obtain ⟨a, ha⟩ : ∃ a, a = nu (be l) (n - (p + 1)) (p + 1) := ⟨_, rfl⟩
      have ha1 := nu_le (be l) (n - (p + 1)) (p + 1)
      have ha2 := nu_stop (be l) (n - (p + 1)) (p + 1)
      have ha3 := nu_none (be l) (n - (p + 1)) (p + 1)
      rw [← ha] at ha1 ha2 ha3
      have e1 : su (be l) n p = some a := by unfold su; rw [if_neg hpn, ← ha]
      rw [e1]
      have HSD : Hid (a ≠ n → dnQ l a = true) := fun h => by rw [← be_dn (by omega) (by omega)]; rcases ha2 with e | e; omega; exact e
      have HND : Hid (∀ j, p + 1 ≤ j → j < a → dnQ l j = false) := fun j h1 h2 => by rw [← be_dn (by omega) (by omega)]; exact ha3 j h1 h2
      have bn : ((p : Int) == (n : Int)) = false := by simp; omega
      have g1 : ¬ ((a : Int) ≤ (p : Int)) := by omega
      have g2 : ¬ ((n : Int) < (a : Int)) := by omega
      have g3 : (a : Int) ≤ 140737488355328 := by omega
      have g4 : decide (a ≤ p) = false := by simp; omega
      have g5 : decide (n < a) = false := by simp; omega
      clear ha e1 ha2 ha3
      obtain ⟨b, hb⟩ : ∃ b, b = nd (ee l) (p - 1) := ⟨_, rfl⟩
      have hb1 := nd_le (ee l) (p - 1)
      have hb2 := nd_stop (ee l) (p - 1)
      have hb3 := nd_none (ee l) (p - 1)
      rw [← hb] at hb1 hb2 hb3
      have HSB : Hid (sd (ee l) p = some b) := by unfold Hid sd; rw [if_neg hpz, ← hb]
      have HSU : Hid (b ≠ 0 → upQ l b = true) := fun h => by rw [← ee_up (by omega)]; rcases hb2 with e | e; omega; exact e
      have HNU : Hid (∀ j, b + 1 ≤ j → j < p → upQ l j = false) := fun j h1 h2 => by rw [← ee_up (by omega)]; exact hb3 j (by omega) (by omega)
      have bz : ((p : Int) == 0) = false := by simp; omega
      have u1 : ¬ ((p : Int) ≤ (b : Int)) := by omega
      have u2 : ¬ ((b : Int) < 0) := by omega
      have u3 : (b : Int) ≤ 140737488355328 := by omega
      have u4 : decide (p ≤ b) = false := by simp; omega
      have u5 : decide ((b : Int) < 0) = false := by simp
      have hbp : b < p := by omega
      clear hb hb2 hb3
      have HPN := Hid.mk' hpn
      have HPZ := Hid.mk' hpz
      clear hpn hpz
      unfold mvE
      dsimp only
      go_wp2_with fail
      have T0 := Hid.mk' (Blk.new w2 30 #[.int .i64 p, .int .i64 a, .int .i64 1])
      refine (move_any _ _ _ _ _ _ l _ (Hid.mk' (snts_no (by rw [kn123]; decide))) (Hid.mk' (HT.out.keep (bAlloc B2.out _)))).mono ?_
      rintro e w3 ⟨rfl, hb3⟩
      rw [mv123 (by omega), HSB.out]
      have B3 := Hid.mk' (bT (bAlloc B2.out _) hb3)
      have k3 := keepC hb3 (show (w2.alloc (.cells #[.int .i64 p, .int .i64 a, .int .i64 1] 30)).cell? ⟨w.heap.size, 0, none⟩ = some (.slice ao n c) from keepC (bAlloc (Below.refl _ _) _) k0)
      have T3 := Hid.mk' (T0.out.keep hb3)
      clear hb3 T0 k0
      unfold mvE
      dsimp only
      have k4 : (w3.alloc (.cells #[.int .i64 p, .int .i64 b, .int .i64 1] 30)).cell? ⟨w.heap.size, 0, none⟩ = some (.slice ao n c) := keepC (bAlloc (Below.refl _ _) _) k3
      have B4 := Hid.mk' (bAlloc B3.out (.cells #[.int .i64 p, .int .i64 b, .int .i64 1] 30))
      have T4 := Hid.mk' (HT.out.keep B4.out)
      have ca : (w3.alloc (.cells #[.int .i64 p, .int .i64 b, .int .i64 1] 30)).cell? ⟨w2.heap.size, 1, none⟩ = some (.int .i64 a) := keepC (bAlloc (Below.refl _ _) _) (T3.out.cell rfl)
      have cb : (w3.alloc (.cells #[.int .i64 p, .int .i64 b, .int .i64 1] 30)).cell? ⟨w3.heap.size, 1, none⟩ = some (.int .i64 b) := (Blk.new w3 30 #[.int .i64 p, .int .i64 b, .int .i64 1]).cell rfl
      have hz3 := lt_of_cell k3
      clear k3 B3 T3
      go_upto_region 8 with fail
      generalize w3.alloc (.cells #[.int .i64 p, .int .i64 b, .int .i64 1] 30) = W4 at *
      generalize w3.heap.size = G3 at *
      generalize w2.heap.size = G2 at *
      by_cases han : a = n
      · have hb1 : ((a : Int) != (n : Int)) = false := by simp; omega
        clear han
        go_wp2
        go_loopg [12] (a - (p + 1)) (fun g x12 wx => ∃ j : Nat, x12 = .int .i64 j ∧ j + g = a ∧ p + 1 ≤ j ∧ W4 = wx)
        case atStart => exact ⟨p + 1, by go_num, by omega, by omega, rfl⟩
        case round =>
          obtain ⟨j, rfl, hj, hj2, rfl⟩ := hrel
          have hj0 : (0 : Int) ≤ (j : Int) := by omega
          have hjb : (j : Int) ≤ 140737488355328 := by omega
          cases gk with
          | succ g =>
            have hlt : (j : Int) < (a : Int) := by omega
            have C1 := Hid.mk' (down_any (k := j) (by omega) (by omega) k4 T4)
            rw [HND.out j (by omega) (by omega)] at C1
            go_wp2_with fail
            refine C1.out.mono ?_
            rintro e w' ⟨rfl, hq⟩
            have hq2 := hq.symm; subst hq2; clear hq
            go_wp2
            go_roundg g
            case measure => omega
            case rel => exact ⟨j + 1, by go_num, by omega, by omega, rfl⟩
          | zero =>
            have hlt : ¬ ((j : Int) < (a : Int)) := by omega
            by_cases hbz : b = 0
            · have hb1 : ((b : Int) != 0) = false := by simp; omega
              clear hbz
              go_wp2
              go_loopg [13] (p - (b + 1)) (fun g x13 wx => ∃ j : Nat, x13 = .int .i64 j ∧ j + g = p ∧ b + 1 ≤ j ∧ W4 = wx)
              case atStart => exact ⟨b + 1, by go_num, by omega, by omega, rfl⟩
              case round =>
                obtain ⟨j, rfl, hj, hj2, rfl⟩ := hrel
                have hj0 : (0 : Int) ≤ (j : Int) := by omega
                have hjb : (j : Int) ≤ 140737488355328 := by omega
                cases gk with
                | succ g =>
                  have hlt : (j : Int) < (p : Int) := by omega
                  have C1 := Hid.mk' (up_any (k := j) (by omega) k4 T4)
                  rw [HNU.out j (by omega) (by omega)] at C1
                  go_wp2_with fail
                  refine C1.out.mono ?_
                  rintro e w' ⟨rfl, hq⟩
                  have hq2 := hq.symm; subst hq2; clear hq
                  go_wp2
                  go_roundg g
                  case measure => omega
                  case rel => exact ⟨j + 1, by go_num, by omega, by omega, rfl⟩
                | zero =>
                  have hlt : ¬ ((j : Int) < (p : Int)) := by omega
                  go_wp2
                  go_ret
                  exact ⟨rfl, B4.out⟩
            · have hb1 : ((b : Int) != 0) = true := by simp; omega
              have C0 := Hid.mk' (up_any (k := b) (by omega) k4 T4)
              rw [HSU.out hbz] at C0
              clear hbz
              go_wp2_with fail
              refine C0.out.mono ?_
              rintro e w' ⟨rfl, hq⟩
              have hq2 := hq.symm; subst hq2; clear hq
              go_wp2
              go_loopg [13] (p - (b + 1)) (fun g x13 wx => ∃ j : Nat, x13 = .int .i64 j ∧ j + g = p ∧ b + 1 ≤ j ∧ W4 = wx)
              case atStart => exact ⟨b + 1, by go_num, by omega, by omega, rfl⟩
              case round =>
                obtain ⟨j, rfl, hj, hj2, rfl⟩ := hrel
                have hj0 : (0 : Int) ≤ (j : Int) := by omega
                have hjb : (j : Int) ≤ 140737488355328 := by omega
                cases gk with
                | succ g =>
                  have hlt : (j : Int) < (p : Int) := by omega
                  have C1 := Hid.mk' (up_any (k := j) (by omega) k4 T4)
                  rw [HNU.out j (by omega) (by omega)] at C1
                  go_wp2_with fail
                  refine C1.out.mono ?_
                  rintro e w' ⟨rfl, hq⟩
                  have hq2 := hq.symm; subst hq2; clear hq
                  go_wp2
                  go_roundg g
                  case measure => omega
                  case rel => exact ⟨j + 1, by go_num, by omega, by omega, rfl⟩
                | zero =>
                  have hlt : ¬ ((j : Int) < (p : Int)) := by omega
                  go_wp2
                  go_ret
                  exact ⟨rfl, B4.out⟩
      · have hb1 : ((a : Int) != (n : Int)) = true := by simp; omega
        have C0 := Hid.mk' (down_any (k := a) (by omega) (by omega) k4 T4)
        rw [HSD.out han] at C0
        clear han
        go_wp2_with fail
        refine C0.out.mono ?_
        rintro e w' ⟨rfl, hq⟩
        have hq2 := hq.symm; subst hq2; clear hq
        go_wp2
        go_loopg [12] (a - (p + 1)) (fun g x12 wx => ∃ j : Nat, x12 = .int .i64 j ∧ j + g = a ∧ p + 1 ≤ j ∧ W4 = wx)
        case atStart => exact ⟨p + 1, by go_num, by omega, by omega, rfl⟩
        case round =>
          obtain ⟨j, rfl, hj, hj2, rfl⟩ := hrel
          have hj0 : (0 : Int) ≤ (j : Int) := by omega
          have hjb : (j : Int) ≤ 140737488355328 := by omega
          cases gk with
          | succ g =>
            have hlt : (j : Int) < (a : Int) := by omega
            have C1 := Hid.mk' (down_any (k := j) (by omega) (by omega) k4 T4)
            rw [HND.out j (by omega) (by omega)] at C1
            go_wp2_with fail
            refine C1.out.mono ?_
            rintro e w' ⟨rfl, hq⟩
            have hq2 := hq.symm; subst hq2; clear hq
            go_wp2
            go_roundg g
            case measure => omega
            case rel => exact ⟨j + 1, by go_num, by omega, by omega, rfl⟩
          | zero =>
            have hlt : ¬ ((j : Int) < (a : Int)) := by omega
            by_cases hbz : b = 0
            · have hb1 : ((b : Int) != 0) = false := by simp; omega
              clear hbz
              go_wp2
              go_loopg [13] (p - (b + 1)) (fun g x13 wx => ∃ j : Nat, x13 = .int .i64 j ∧ j + g = p ∧ b + 1 ≤ j ∧ W4 = wx)
              case atStart => exact ⟨b + 1, by go_num, by omega, by omega, rfl⟩
              case round =>
                obtain ⟨j, rfl, hj, hj2, rfl⟩ := hrel
                have hj0 : (0 : Int) ≤ (j : Int) := by omega
                have hjb : (j : Int) ≤ 140737488355328 := by omega
                cases gk with
                | succ g =>
                  have hlt : (j : Int) < (p : Int) := by omega
                  have C1 := Hid.mk' (up_any (k := j) (by omega) k4 T4)
                  rw [HNU.out j (by omega) (by omega)] at C1
                  go_wp2_with fail
                  refine C1.out.mono ?_
                  rintro e w' ⟨rfl, hq⟩
                  have hq2 := hq.symm; subst hq2; clear hq
                  go_wp2
                  go_roundg g
                  case measure => omega
                  case rel => exact ⟨j + 1, by go_num, by omega, by omega, rfl⟩
                | zero =>
                  have hlt : ¬ ((j : Int) < (p : Int)) := by omega
                  go_wp2
                  go_ret
                  exact ⟨rfl, B4.out⟩
            · have hb1 : ((b : Int) != 0) = true := by simp; omega
              have C0 := Hid.mk' (up_any (k := b) (by omega) k4 T4)
              rw [HSU.out hbz] at C0
              clear hbz
              go_wp2_with fail
              refine C0.out.mono ?_
              rintro e w' ⟨rfl, hq⟩
              have hq2 := hq.symm; subst hq2; clear hq
              go_wp2
              go_loopg [13] (p - (b + 1)) (fun g x13 wx => ∃ j : Nat, x13 = .int .i64 j ∧ j + g = p ∧ b + 1 ≤ j ∧ W4 = wx)
              case atStart => exact ⟨b + 1, by go_num, by omega, by omega, rfl⟩
              case round =>
                obtain ⟨j, rfl, hj, hj2, rfl⟩ := hrel
                have hj0 : (0 : Int) ≤ (j : Int) := by omega
                have hjb : (j : Int) ≤ 140737488355328 := by omega
                cases gk with
                | succ g =>
                  have hlt : (j : Int) < (p : Int) := by omega
                  have C1 := Hid.mk' (up_any (k := j) (by omega) k4 T4)
                  rw [HNU.out j (by omega) (by omega)] at C1
                  go_wp2_with fail
                  refine C1.out.mono ?_
                  rintro e w' ⟨rfl, hq⟩
                  have hq2 := hq.symm; subst hq2; clear hq
                  go_wp2
                  go_roundg g
                  case measure => omega
                  case rel => exact ⟨j + 1, by go_num, by omega, by omega, rfl⟩
                | zero =>
                  have hlt : ¬ ((j : Int) < (p : Int)) := by omega
                  go_wp2
                  go_ret
                  exact ⟨rfl, B4.out⟩
end Go.Proofs.YtkapddemgodamaaDoor
