/- read. -/
import Derived.Test.YtaakgoojcogbcaaFre
namespace Go.Proofs.Ytaakgoojcogbcaa
open Go.RowKit
/-- what the first k things take over -/
def rv (l : List Th) (b : Nat) (g : Nat → Nat) (k i : Nat) : Nat := min (if 0 < i ∧ i - 1 < k ∧ tk1 (th l (i - 1)) b = true then g (i - 1) else N0) (if i < k ∧ tkm (th l i) b = true then g i else N0)
theorem rv_le (l : List Th) (b : Nat) (g : Nat → Nat) (k i : Nat) (hg : ∀ k, g k ≤ N0) : rv l b g k i ≤ N0 := by
  unfold rv
  have := hg i
  have := hg (i - 1)
  split <;> split <;> omega
theorem rv_skip {l : List Th} {b : Nat} {g : Nat → Nat} {k : Nat} (h : g k = N0 ∨ (tk1 (th l k) b = false ∧ tkm (th l k) b = false)) : rv l b g (k + 1) = rv l b g k := by
  funext i
  unfold rv
  have h1 : (if 0 < i ∧ i - 1 < k + 1 ∧ tk1 (th l (i - 1)) b = true then g (i - 1) else N0) = (if 0 < i ∧ i - 1 < k ∧ tk1 (th l (i - 1)) b = true then g (i - 1) else N0) := by
    by_cases e : i - 1 = k
    · rw [e, if_neg (show ¬ (0 < i ∧ k < k ∧ tk1 (th l k) b = true) by omega)]
      rcases h with h | h
      · rw [h]; split <;> rfl
      · rw [h.1]; simp
    · have : (i - 1 < k + 1) = (i - 1 < k) := propext ⟨fun _ => by omega, fun _ => by omega⟩
      simp only [this]
  have h2 : (if i < k + 1 ∧ tkm (th l i) b = true then g i else N0) = (if i < k ∧ tkm (th l i) b = true then g i else N0) := by
    by_cases e : i = k
    · subst e
      rw [if_neg (show ¬ (i < i ∧ tkm (th l i) b = true) by omega)]
      rcases h with h | h
      · rw [h]; split <;> rfl
      · rw [h.2]; simp
    · have : (i < k + 1) = (i < k) := propext ⟨fun _ => by omega, fun _ => by omega⟩
      simp only [this]
  rw [h1, h2]
theorem tk_not {t : Th} {b : Nat} (h : tk1 t b = true) : tkm t b = false := by
  unfold tk1 at h; unfold tkm
  simp at h; simp [h.1]
theorem tkm_not {t : Th} {b : Nat} (h : tkm t b = true) : tk1 t b = false := by
  unfold tkm at h; unfold tk1
  simp at h; simp [h.1]
theorem rv_one {l : List Th} {b : Nat} {g : Nat → Nat} {k : Nat} (h : tk1 (th l k) b = true) : rv l b g (k + 1) = fun i => if i = k + 1 then min (rv l b g k (k + 1)) (g k) else rv l b g k i := by
  funext i
  have hm := tk_not h
  by_cases e : i = k + 1
  · subst e
    rw [if_pos rfl]
    unfold rv
    simp only [Nat.add_sub_cancel]
    rw [if_pos ⟨by omega, by omega, h⟩, if_neg (show ¬ (k + 1 < k + 1 ∧ tkm (th l (k + 1)) b = true) by omega), if_neg (show ¬ (0 < k + 1 ∧ k < k ∧ tk1 (th l k) b = true) by omega), if_neg (show ¬ (k + 1 < k ∧ tkm (th l (k + 1)) b = true) by omega)]
    omega
  · rw [if_neg e]
    unfold rv
    have h1 : (0 < i ∧ i - 1 < k + 1 ∧ tk1 (th l (i - 1)) b = true) ↔ (0 < i ∧ i - 1 < k ∧ tk1 (th l (i - 1)) b = true) := ⟨fun ⟨a1, a2, a3⟩ => ⟨a1, by omega, a3⟩, fun ⟨a1, a2, a3⟩ => ⟨a1, by omega, a3⟩⟩
    have h2 : (i < k + 1 ∧ tkm (th l i) b = true) ↔ (i < k ∧ tkm (th l i) b = true) := ⟨fun ⟨a1, a2⟩ => ⟨by
      rcases Nat.lt_or_ge i k with h3 | h3
      · exact h3
      · have : i = k := by omega
        subst this; exact absurd a2 (by rw [hm]; decide), a2⟩, fun ⟨a1, a2⟩ => ⟨by omega, a2⟩⟩
    simp only [h1, h2]
theorem rv_many {l : List Th} {b : Nat} {g : Nat → Nat} {k : Nat} (hg : ∀ k, g k ≤ N0) (h : tkm (th l k) b = true) : rv l b g (k + 1) = fun i => if i = k then min (rv l b g k k) (g k) else rv l b g k i := by
  funext i
  have hm := tkm_not h
  by_cases e : i = k
  · subst e
    rw [if_pos rfl]
    unfold rv
    have h1 : (0 < i ∧ i - 1 < i + 1 ∧ tk1 (th l (i - 1)) b = true) ↔ (0 < i ∧ i - 1 < i ∧ tk1 (th l (i - 1)) b = true) := ⟨fun ⟨a1, a2, a3⟩ => ⟨a1, by omega, a3⟩, fun ⟨a1, a2, a3⟩ => ⟨a1, by omega, a3⟩⟩
    simp only [h1]
    rw [if_pos (show i < i + 1 ∧ tkm (th l i) b = true from ⟨by omega, h⟩), if_neg (show ¬ (i < i ∧ tkm (th l i) b = true) by omega)]
    by_cases hc : 0 < i ∧ i - 1 < i ∧ tk1 (th l (i - 1)) b = true
    · rw [if_pos hc]; have := hg (i - 1); omega
    · rw [if_neg hc]; omega
  · rw [if_neg e]
    unfold rv
    have h1 : (0 < i ∧ i - 1 < k + 1 ∧ tk1 (th l (i - 1)) b = true) ↔ (0 < i ∧ i - 1 < k ∧ tk1 (th l (i - 1)) b = true) := ⟨fun ⟨a1, a2, a3⟩ => ⟨a1, by
      rcases Nat.lt_or_ge (i - 1) k with h3 | h3
      · exact h3
      · have : i - 1 = k := by omega
        exact absurd a3 (by rw [this, hm]; decide), a3⟩, fun ⟨a1, a2, a3⟩ => ⟨a1, by omega, a3⟩⟩
    have h2 : (i < k + 1 ∧ tkm (th l i) b = true) ↔ (i < k ∧ tkm (th l i) b = true) := ⟨fun ⟨a1, a2⟩ => ⟨by omega, a2⟩, fun ⟨a1, a2⟩ => ⟨by omega, a2⟩⟩
    simp only [h1, h2]
theorem rv_end {l : List Th} {b : Nat} {g : Nat → Nat} {i : Nat} (hi : i < l.length + 1) : rv l b g l.length i = Rn l b g i := by
  unfold rv Rn
  have h1 : (0 < i ∧ i - 1 < l.length ∧ tk1 (th l (i - 1)) b = true) ↔ (0 < i ∧ tk1 (th l (i - 1)) b = true) := ⟨fun ⟨a1, a2, a3⟩ => ⟨a1, a3⟩, fun ⟨a1, a3⟩ => ⟨a1, by omega, a3⟩⟩
  simp only [h1]

set_option maxRecDepth 8000 in
set_option maxHeartbeats 8000000 in
theorem read_any (w W0 W : World) (Sb gb gn : Nat) (at_ : Option Addr) (ct : Nat) (ao : Option Addr) (nl cl : Nat) (l : List Th) (g h : Nat → Nat) (b : Nat) (hb : b < 256) (hl : l.length ≤ 256) (hg : Hid (∀ k, g k ≤ N0)) (HTh : Hid (Ths w at_ l)) (H : Hid (Se w W0 W Sb gb gn at_ ct ao nl cl l g h)) :
    Calls Try.prog 58 #[.pointer (some ⟨Sb, 0, none⟩), .int .u8 (b : Int)] W fun e W' => e = .returned (.tuple #[]) ∧ Se w W0 W' Sb gn gb at_ ct ao nl cl l (Rn l b g) g := by
  have c3 : W.cell? ⟨Sb, 3, none⟩ = some (.slice (some ⟨gn, 0, none⟩) (l.length + 1) (l.length + 1)) := H.out.blk.cell (j := 3) rfl
  have CF := Hid.mk' (fill_any W gn (l.length + 1) h (by omega) H.out.nx)
  go_enter Try.func58, Try.ntmps58
  go_wp2_with (go_at_call 55; refine CF.out.mono ?_; rintro e w1 ⟨rfl, hg1, hk1⟩; have S1 := Hid.mk' (H.out.next hg1 hk1); clear hg1 hk1; have d0 : w1.cell? ⟨Sb, 0, none⟩ = some (.slice at_ l.length ct) := S1.out.blk.cell (j := 0) rfl)
  clear CF
  go_loopg [4, 5, 6, 7, 18] l.length (fun m x4 x5 x6 x7 x18 wx => ∃ k : Nat, x18 = .int .i64 (k : Int) ∧ k + m = l.length ∧ Hid (Se w W0 wx Sb gb gn at_ ct ao nl cl l g (rv l b g k)))
  case atStart =>
    refine ⟨0, rfl, by omega, ?_⟩
    have : rv l b g 0 = N0s := by
      funext i; unfold rv N0s
      rw [if_neg (by omega), if_neg (by omega)]; omega
    rw [this]; exact S1.out
  case round =>
    obtain ⟨k, rfl, hk, HS⟩ := hrel
    have b2 : wr.cell? ⟨Sb, 2, none⟩ = some (.slice (some ⟨gb, 0, none⟩) (l.length + 1) (l.length + 1)) := HS.out.blk.cell (j := 2) rfl
    have b3 : wr.cell? ⟨Sb, 3, none⟩ = some (.slice (some ⟨gn, 0, none⟩) (l.length + 1) (l.length + 1)) := HS.out.blk.cell (j := 3) rfl
    cases gk with
    | zero =>
      have hkn : ¬ ((k : Int) < (l.length : Int)) := by omega
      have zz2 := HS.out.blk.frozen 2
      have zz3 := HS.out.blk.frozen 3
      have HKN : Hid (k = l.length) := by unfold Hid; omega
      go_wp2_with fail
      go_region
      go_wp2
      refine bodyPost_end (v := .tuple #[]) (by simp [results, Try.results58]) rfl ⟨rfl, ?_⟩
      have s := HS.out
      refine Se.keep (W := ((wr.setCell ⟨Sb, 2, none⟩ (.slice (some ⟨gn, 0, none⟩) (l.length + 1) (l.length + 1))).setCell ⟨Sb, 3, none⟩ (.slice (some ⟨gb, 0, none⟩) (l.length + 1) (l.length + 1)))) ?_ (Below.refl _ _).drew
      refine ⟨(s.bel.setCell s.lowS _).setCell s.lowS _, s.lowS, s.lowN, s.lowB, s.ne.symm, (s.blk.set (j := 2) _).set (j := 3) _, Nat.le_trans s.ws (gb_trans (gb_set wr Sb 2 _) (gb_set _ Sb 3 _)).size, (fun k hk h1 h2 h3 => ((gb_trans (gb_set wr Sb 2 _) (gb_set _ Sb 3 _)).block k (Nat.lt_of_lt_of_le hk s.ws) (fun e => by injection e with e; exact h1 e)).trans (s.oth k hk h1 h3 h2)), ?_, (s.bg.off (blk_ne s.bg s.blk (by decide)) _).off (blk_ne s.bg s.blk (by decide)) _⟩
      rw [nva_congr (h := rv l b g k) (fun i hi => by rw [HKN.out]; exact (rv_end hi).symm)]
      exact (s.nx.off (blk_ne s.nx s.blk (by decide)) _).off (blk_ne s.nx s.blk (by decide)) _
    | succ m =>
      have hkn : (k : Int) < (l.length : Int) := by omega
      have hl2 : (l.length : Int) ≤ 256 := by omega
      obtain ⟨gt, e1, hct⟩ := HTh.out k (by omega)
      subst e1
      have ct1 := keepC HS.out.bel hct
      have r0 := HS.out.bg.cell (nva_at _ (j := k) (by omega))
      obtain ⟨x, HX⟩ : ∃ x, Hid (g k = x) := ⟨_, rfl⟩
      rw [HX.out] at r0
      have hk1 : (k : Int) + 1 < (l.length : Int) + 1 := by omega
      have hk2 : ((k : Int) + 1).toNat = k + 1 := by omega
      have hk3 : (k : Int) < (l.length : Int) + 1 := by omega
      clear hct
      obtain ⟨⟨K, s⟩, HE⟩ : ∃ t, Hid (th l k = t) := ⟨_, rfl⟩
      rw [HE.out] at ct1
      by_cases hx : x = N0
      · have hx' : ((x : Int) == 9223372036854775807) = true := by rw [hx]; rfl
        have HP : Hid (rv l b g (k + 1) = rv l b g k) := rv_skip (.inl (by rw [HX.out, hx]))
        clear hx
        obtain ⟨E, HEE⟩ : ∃ E, Hid (env ⟨K, s⟩ = E) := ⟨_, rfl⟩
        rw [HEE.out] at ct1
        go_wp2
        go_roundg m
        case measure => omega
        case rel => exact ⟨k + 1, by go_num, by omega, by rw [HP.out]; exact HS.out⟩
      · have hx' : ((x : Int) == 9223372036854775807) = false := by
          have : (x : Int) ≠ 9223372036854775807 := fun e => hx (by unfold N0; omega)
          simpa using this
        by_cases k0 : K = 0
        · subst k0
          rw [show env ⟨0, s⟩ = .iface 96 (.agg #[.int .u64 (wz s 0 : Int), .int .u64 (wz s 1 : Int), .int .u64 (wz s 2 : Int), .int .u64 (wz s 3 : Int)]) from rfl] at ct1
          have q0 : ∀ w, (Instr.typeAssert (.iface 96 (.agg #[.int .u64 (wz s 0 : Int), .int .u64 (wz s 1 : Int), .int .u64 (wz s 2 : Int), .int .u64 (wz s 3 : Int)])) 120 96 true).run Try.prog w = .ok (.tuple #[.agg #[.int .u64 (wz s 0 : Int), .int .u64 (wz s 1 : Int), .int .u64 (wz s 2 : Int), .int .u64 (wz s 3 : Int)], .bool true]) w := fun w => ta72 96 _ w
          have hso := has_any s b
          unfold wv at hso
          have r1 := HS.out.nx.cell (nva_at _ (j := k + 1) (by omega))
          have z1 := HS.out.nx.frozen (k + 1)
          obtain ⟨y, HY⟩ : ∃ y, Hid (rv l b g k (k + 1) = y) := ⟨_, rfl⟩
          rw [HY.out] at r1
          cases hf : s b with
          | false =>
            have HP : Hid (rv l b g (k + 1) = rv l b g k) := rv_skip (.inr (by rw [HE.out]; unfold tk1 tkm; dsimp only; rw [hf]; simp))
            have HSO := Hid.mk' (fun w => hso w hb)
            rw [hf] at HSO
            clear hso hf
            go_wp2_with (go_at_call 85; refine (HSO.out _).mono ?_; rintro e w' ⟨rfl, hb1⟩)
            go_roundg m
            case measure => omega
            case rel => exact ⟨k + 1, by go_num, by omega, by rw [HP.out]; exact (HS.out.keep (bAlloc (Below.refl _ _) _)).keep hb1⟩
          | true =>
            have HP := Hid.mk' (rv_one (l := l) (b := b) (g := g) (k := k) (by rw [HE.out]; unfold tk1; dsimp only; rw [hf]; simp))
            rw [HY.out, HX.out] at HP
            have HSO := Hid.mk' (fun w => hso w hb)
            rw [hf] at HSO
            clear hso hf
            go_wp2_with (go_at_call 85; refine (HSO.out _).mono ?_; rintro e w' ⟨rfl, hb1⟩; have HS1 := Hid.mk' ((HS.out.keep (bAlloc (Below.refl _ _) _)).keep hb1); have B1 := Hid.mk' (bT (bAlloc (Below.refl _ _) _) hb1); clear hb1)
            replace b2 := keepC B1.out b2
            replace b3 := keepC B1.out b3
            replace r0 := keepC B1.out r0
            replace r1 := keepC B1.out r1
            replace z1 := HS1.out.nx.frozen (k + 1)
            clear HS B1 ct1
            go_region
            go_wp2
            go_roundg m
            case measure => omega
            case rel =>
              rw [show min (y : Int) (x : Int) = ((min y x : Nat) : Int) by omega]
              exact ⟨k + 1, by go_num, by omega, by rw [HP.out]; exact (HS1.out.setN (k + 1) (min y x)).keep (Below.refl _ _).drew⟩
        · by_cases k1 : K = 1
          · subst k1
            rw [show env ⟨1, s⟩ = .iface 122 (.agg #[.int .u64 (wz s 0 : Int), .int .u64 (wz s 1 : Int), .int .u64 (wz s 2 : Int), .int .u64 (wz s 3 : Int)]) from rfl] at ct1
            have q0 : ∀ w, (Instr.typeAssert (.iface 122 (.agg #[.int .u64 (wz s 0 : Int), .int .u64 (wz s 1 : Int), .int .u64 (wz s 2 : Int), .int .u64 (wz s 3 : Int)])) 120 96 true).run Try.prog w = .ok (.tuple #[.agg #[.int .u64 0, .int .u64 0, .int .u64 0, .int .u64 0], .bool false]) w := fun w => ta72 122 _ w
            have q1 : ∀ w, (Instr.typeAssert (.iface 122 (.agg #[.int .u64 (wz s 0 : Int), .int .u64 (wz s 1 : Int), .int .u64 (wz s 2 : Int), .int .u64 (wz s 3 : Int)])) 120 122 true).run Try.prog w = .ok (.tuple #[.agg #[.int .u64 (wz s 0 : Int), .int .u64 (wz s 1 : Int), .int .u64 (wz s 2 : Int), .int .u64 (wz s 3 : Int)], .bool true]) w := fun w => ta91 122 _ w
            have hso := has_any s b
            unfold wv at hso
            have r1 := HS.out.nx.cell (nva_at _ (j := k) (by omega))
            have z1 := HS.out.nx.frozen (k)
            obtain ⟨y, HY⟩ : ∃ y, Hid (rv l b g k (k) = y) := ⟨_, rfl⟩
            rw [HY.out] at r1
            cases hf : s b with
            | false =>
              have HP : Hid (rv l b g (k + 1) = rv l b g k) := rv_skip (.inr (by rw [HE.out]; unfold tk1 tkm; dsimp only; rw [hf]; simp))
              have HSO := Hid.mk' (fun w => hso w hb)
              rw [hf] at HSO
              clear hso hf
              go_wp2_with (go_at_call 85; refine (HSO.out _).mono ?_; rintro e w' ⟨rfl, hb1⟩)
              go_roundg m
              case measure => omega
              case rel => exact ⟨k + 1, by go_num, by omega, by rw [HP.out]; exact (HS.out.keep (bAlloc (Below.refl _ _) _)).keep hb1⟩
            | true =>
              have HP := Hid.mk' (rv_many (l := l) (b := b) (g := g) (k := k) hg.out (by rw [HE.out]; unfold tkm; dsimp only; rw [hf]; simp))
              rw [HY.out, HX.out] at HP
              have HSO := Hid.mk' (fun w => hso w hb)
              rw [hf] at HSO
              clear hso hf
              go_wp2_with (go_at_call 85; refine (HSO.out _).mono ?_; rintro e w' ⟨rfl, hb1⟩; have HS1 := Hid.mk' ((HS.out.keep (bAlloc (Below.refl _ _) _)).keep hb1); have B1 := Hid.mk' (bT (bAlloc (Below.refl _ _) _) hb1); clear hb1)
              replace b2 := keepC B1.out b2
              replace b3 := keepC B1.out b3
              replace r0 := keepC B1.out r0
              replace r1 := keepC B1.out r1
              replace z1 := HS1.out.nx.frozen (k)
              clear HS B1 ct1
              go_region
              go_wp2
              go_roundg m
              case measure => omega
              case rel =>
                rw [show min (y : Int) (x : Int) = ((min y x : Nat) : Int) by omega]
                exact ⟨k + 1, by go_num, by omega, by rw [HP.out]; exact (HS1.out.setN (k) (min y x)).keep (Below.refl _ _).drew⟩
          · have HP : Hid (rv l b g (k + 1) = rv l b g k) := rv_skip (.inr (by rw [HE.out]; unfold tk1 tkm; dsimp only; rw [decide_eq_false k0, decide_eq_false k1]; exact ⟨rfl, rfl⟩))
            obtain ⟨T, V, e, t1, t2⟩ : ∃ T V, env ⟨K, s⟩ = .iface T V ∧ T ≠ 96 ∧ T ≠ 122 := by
              unfold env; dsimp only; rw [if_neg k0, if_neg k1]
              repeat' split
              all_goals exact ⟨_, _, rfl, by decide, by decide⟩
            rw [e] at ct1
            have q0 : ∀ w, (Instr.typeAssert (.iface T V) 120 96 true).run Try.prog w = .ok (.tuple #[.agg #[.int .u64 0, .int .u64 0, .int .u64 0, .int .u64 0], .bool false]) w := fun w => by rw [ta72]; unfold taR; rw [if_neg t1]
            have q1 : ∀ w, (Instr.typeAssert (.iface T V) 120 122 true).run Try.prog w = .ok (.tuple #[.agg #[.int .u64 0, .int .u64 0, .int .u64 0, .int .u64 0], .bool false]) w := fun w => by rw [ta91]; unfold taR; rw [if_neg t2]
            clear e
            go_wp2
            go_roundg m
            case measure => omega
            case rel => exact ⟨k + 1, by go_num, by omega, by rw [HP.out]; exact HS.out⟩
end Go.Proofs.Ytaakgoojcogbcaa
