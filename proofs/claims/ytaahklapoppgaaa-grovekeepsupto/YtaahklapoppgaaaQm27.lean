/- Right histories stay right (pure): a new one, a change more, crossings up and down. -/
import Derived.Test.YtaahklapoppgaaaQm23
import Derived.Test.YtaahklapoppgaaaQm26
namespace Go.Proofs.Ytaahklapoppgaaa

/-- right, told by numbers -/
theorem right_at {G : List Nd} {now : Int} : Right G now ↔ Sized G now ∧ Zero (at' G 0) ∧ (∀ i, 0 < i → i < G.length → (0 ≤ (at' G i).par ∧ (at' G i).par < (i : Int)) ∧ Sound (at' G i)) ∧ (∀ i, i < G.length → (at' G i).nxt = 0 ∨ ∃ k, k < G.length ∧ (at' G i).nxt = (k : Int) ∧ (at' G k).par = (i : Int)) ∧ Rch G now.toNat := by
  constructor
  · rintro ⟨h1, h2, h3, h4, h5⟩
    refine ⟨h1, h2, fun i h0 hi => h3 i _ h0 (at'_some hi), fun i hi => ?_, h5⟩
    rcases h4 i _ (at'_some hi) with h | ⟨k, hk, m, hm, hp⟩
    · exact .inl h
    · have hkl := (List.getElem?_eq_some_iff.1 hm).1
      exact .inr ⟨k, hkl, hk, by rw [at'_eq hm]; exact hp⟩
  · rintro ⟨h1, h2, h3, h4, h5⟩
    refine ⟨h1, h2, fun i n h0 hn => ?_, fun i n hn => ?_, h5⟩
    · have hi := (List.getElem?_eq_some_iff.1 hn).1
      have := h3 i h0 hi
      rwa [at'_eq hn] at this
    · have hi := (List.getElem?_eq_some_iff.1 hn).1
      rcases h4 i hi with h | ⟨k, hkl, hk, hp⟩
      · rw [at'_eq hn] at h; exact .inl h
      · rw [at'_eq hn] at hk; exact .inr ⟨k, hk, _, at'_some hkl, hp⟩
theorem right_new : Right [zn] 0 := by
  refine right_at.2 ⟨⟨by simp, by omega, by simp⟩, ⟨rfl, rfl, rfl, rfl, rfl⟩, fun i h0 hi => ?_, fun i hi => ?_, fun j hj => by cases hj⟩
  · simp at hi; omega
  · simp at hi; subst hi; exact .inl rfl
theorem way_congr {p q : Nat → Nat} {k i : Nat} (hp : Low p k) (hi : i < k) (h : ∀ j, j < k → p j = q j) : way p i = way q i := by
  have hq : Low q k := fun j h0 hj => by rw [← h j hj]; exact hp j h0 hj
  have : ∀ n i, i ≤ n → i < k → way p i = way q i := fun n => by
    induction n with
    | zero =>
      intro i h1 _
      obtain rfl : i = 0 := by omega
      rfl
    | succ n ih =>
      intro i h1 h2
      by_cases h0 : i = 0
      · subst h0; rfl
      · have := hp i (by omega) h2
        rw [way_step hp (by omega) h2, way_step hq (by omega) h2, ← h i h2, ih _ (by omega) (by omega)]
  exact this i i (Nat.le_refl _) hi
theorem way_le {p : Nat → Nat} {k i j : Nat} (hp : Low p k) (hi : i < k) (hj : j ∈ way p i) : 0 < j ∧ j ≤ i := ⟨Up.mem (way_up hp hi) j hj, (Up.lt hp hi (way_up hp hi)).1 j hj⟩
theorem Right.now_lt {G : List Nd} {now : Int} (h : Right G now) : now.toNat < G.length := by have := h.sz.2; omega
theorem Right.par_lt {G : List Nd} {now : Int} {i : Nat} (h : Right G now) (h0 : 0 < i) (hi : i < G.length) : pr G i < i ∧ (at' G i).par = (pr G i : Int) := by
  have := (h.hng i _ h0 (at'_some hi)).1
  unfold pr
  omega
/-- a crossing changes marks alone -/
theorem right_set {G : List Nd} {now : Int} {i : Nat} {n : Nd} (h : Right G now) (h0 : 0 < i) (hi : i < G.length) (hs : sk n = sk (at' G i)) (hx : n.nxt = (at' G i).nxt) (hw : MOk n.was) (hm : MOk n.made) : Right (G.set i n) now := by
  obtain ⟨h1, h2, h3, h4, h5⟩ := right_at.1 h
  have e1 : ∀ j, (at' (G.set i n) j).par = (at' G j).par := fun j => par_sk (sk_set hs j)
  have e2 : ∀ j, (at' (G.set i n) j).nxt = (at' G j).nxt := fun j => by
    rw [getD_set]
    split
    · rename_i h'; rw [hx, h'.1]
    · rfl
  have e3 : pr (G.set i n) = pr G := funext fun j => pr_sk (sk_set hs j)
  have hl : (G.set i n).length = G.length := List.length_set
  refine right_at.2 ⟨?_, ?_, fun j hj0 hj => ?_, fun j hj => ?_, ?_⟩
  · unfold Sized; rw [hl]; exact h1
  · rw [getD_set, if_neg (by omega)]; exact h2
  · rw [hl] at hj
    refine ⟨by rw [e1]; exact (h3 j hj0 hj).1, ?_⟩
    rw [getD_set]
    split
    · obtain ⟨q1, q2, q3, -, -⟩ := (h3 i h0 hi).2
      have e := ed_sk (G := [n]) (H := [at' G i]) (i := 0) hs
      have e' := cur_sk (G := [n]) (H := [at' G i]) (i := 0) hs
      have f : n.ed = (at' G i).ed := e
      have f' : n.cur = (at' G i).cur := e'
      exact ⟨by rw [f']; exact q1, by rw [f]; exact q2, by rw [f]; exact q3, hw, hm⟩
    · exact (h3 j hj0 hj).2
  · rw [hl] at hj
    rw [e2]
    rcases h4 j hj with h | ⟨k, hk, h, hp⟩
    · exact .inl h
    · exact .inr ⟨k, by rw [hl]; exact hk, h, by rw [e1]; exact hp⟩
  · intro j hj
    rw [e3] at hj
    rw [e3, e2]
    exact h5 j hj
/-- one step up -/
theorem right_par {G : List Nd} {i : Nat} (h : Right G (i : Int)) (h0 : 0 < i) : Right G (at' G i).par := by
  have hi := h.now_lt
  rw [Int.toNat_natCast] at hi
  obtain ⟨hp, he⟩ := h.par_lt h0 hi
  obtain ⟨h1, h2, h3, h4, h5⟩ := right_at.1 h
  refine right_at.2 ⟨⟨h1.1, by omega, by omega⟩, h2, h3, h4, fun j hj => ?_⟩
  rw [he, Int.toNat_natCast] at hj
  rw [Int.toNat_natCast] at h5
  exact h5 j (by rw [way_step h.low h0 hi]; exact List.mem_cons_of_mem _ hj)
theorem right_up {s : Wk} {i : Nat} (h : Right s.G s.now) (hn : s.now = (i : Int)) (h0 : 0 < i) (hm : MOk s.m) (hk : MOk (s.up i).m) : Right (s.up i).G (s.up i).now := by
  rw [hn] at h
  have hi := h.now_lt
  rw [Int.toNat_natCast] at hi
  exact right_set (right_par h h0) h0 hi rfl rfl hm hk
/-- one step down: Next leads to the child -/
theorem right_next {G : List Nd} {i : Nat} (h0 : 0 < i) (hi : i < G.length) (h : Right G ((pr G i : Nat) : Int)) : Right (G.set (pr G i) { at' G (pr G i) with nxt := (i : Int) }) (i : Int) := by
  obtain ⟨hp, he⟩ := h.par_lt h0 hi
  obtain ⟨h1, h2, h3, h4, h5⟩ := right_at.1 h
  obtain ⟨p, hpp⟩ : ∃ p, pr G i = p := ⟨_, rfl⟩
  rw [hpp] at hp he h5 ⊢
  have hs : ∀ j, sk (at' (G.set p { at' G p with nxt := (i : Int) }) j) = sk (at' G j) := sk_set rfl
  have e1 : ∀ j, (at' (G.set p { at' G p with nxt := (i : Int) }) j).par = (at' G j).par := fun j => par_sk (hs j)
  have e2 : ∀ j, j ≠ p → at' (G.set p { at' G p with nxt := (i : Int) }) j = at' G j := fun j hj => by rw [getD_set, if_neg (by omega)]
  have e4 : (at' (G.set p { at' G p with nxt := (i : Int) }) p).nxt = (i : Int) := by rw [getD_set, if_pos ⟨rfl, by omega⟩]
  have e3 : pr (G.set p { at' G p with nxt := (i : Int) }) = pr G := funext fun j => pr_sk (hs j)
  have hl : (G.set p { at' G p with nxt := (i : Int) }).length = G.length := List.length_set
  refine right_at.2 ⟨⟨by rw [hl]; exact h1.1, by omega, by rw [hl]; omega⟩, ?_, fun j hj0 hj => ?_, fun j hj => ?_, fun j hj => ?_⟩
  · by_cases hp0 : p = 0
    · subst hp0
      rw [getD_set, if_pos ⟨rfl, by omega⟩]
      exact h2
    · rw [e2 0 (by omega)]; exact h2
  · rw [hl] at hj
    refine ⟨by rw [e1]; exact (h3 j hj0 hj).1, ?_⟩
    by_cases hjp : j = p
    · subst hjp
      rw [getD_set, if_pos ⟨rfl, by omega⟩]
      exact (h3 j hj0 hj).2
    · rw [e2 j hjp]; exact (h3 j hj0 hj).2
  · rw [hl] at hj
    by_cases hjp : j = p
    · subst hjp
      exact .inr ⟨i, by rw [hl]; exact hi, e4, by rw [e1]; exact he⟩
    · rw [e2 j hjp]
      rcases h4 j hj with h | ⟨k, hk, h, hp⟩
      · exact .inl h
      · exact .inr ⟨k, by rw [hl]; exact hk, h, by rw [e1]; exact hp⟩
  · rw [e3, Int.toNat_natCast, way_step h.low h0 hi, hpp] at hj
    rw [e3]
    rcases List.mem_cons.1 hj with rfl | hj
    · rw [hpp]; exact e4
    · have hw := way_le h.low (by omega) hj
      have hq := h.par_lt hw.1 (by omega)
      rw [e2 _ (by omega)]
      rw [Int.toNat_natCast] at h5
      exact h5 j hj
theorem right_down {s : Wk} {i : Nat} (h : Right s.G s.now) (h0 : 0 < i) (hi : i < s.G.length) (hn : s.now = ((pr s.G i : Nat) : Int)) (hm : MOk s.m) (hk : MOk (s.down i).m) : Right (s.down i).G (s.down i).now := by
  rw [hn] at h
  have h1 : Right (s.dn1 i) ((pr s.G i : Nat) : Int) := right_set h h0 hi rfl rfl hm hk
  have e : pr (s.dn1 i) i = pr s.G i := pr_sk (s.dn1_sk i i)
  rw [← e] at h1
  have := right_next h0 (by rw [s.dn1_len]; exact hi) h1
  rw [e] at this
  exact this
/-- a change more -/
theorem at'_app {G : List Nd} {x : Nd} {j : Nat} : at' (G ++ [x]) j = if j < G.length then at' G j else if j = G.length then x else zn := by
  unfold at'
  rw [List.getD_eq_getElem?_getD, List.getD_eq_getElem?_getD]
  by_cases h : j < G.length
  · rw [List.getElem?_append_left h, if_pos h]
  · rw [if_neg h, List.getElem?_append_right (by omega)]
    by_cases e : j = G.length
    · subst e; simp
    · rw [if_neg e, List.getElem?_eq_none (by simp; omega)]; rfl
theorem right_add {G : List Nd} {now : Int} {x : Nd} (h : Right G now) (hs : Sound x) (hp : x.par = now) (hx : x.nxt = 0) (hl : G.length ≤ 4096) : Right (addG G now x) (G.length : Int) := by
  obtain ⟨k, hk⟩ : ∃ k : Nat, now = (k : Int) := ⟨now.toNat, by have := h.sz.2; omega⟩
  subst hk
  have hkl := h.now_lt
  rw [Int.toNat_natCast] at hkl
  obtain ⟨h1, h2, h3, h4, h5⟩ := right_at.1 h
  -- first the child at the end, then Next
  have hA : Right (G ++ [x]) (k : Int) := by
    have e : ∀ j, j < G.length → at' (G ++ [x]) j = at' G j := fun j hj => by rw [at'_app, if_pos hj]
    have ex : at' (G ++ [x]) G.length = x := by rw [at'_app, if_neg (by omega), if_pos rfl]
    refine right_at.2 ⟨⟨by simp; omega, by omega, by simp; omega⟩, by rw [e 0 (by omega)]; exact h2, fun j hj0 hj => ?_, fun j hj => ?_, fun j hj => ?_⟩
    · simp at hj
      by_cases hjl : j < G.length
      · rw [e j hjl]; exact h3 j hj0 hjl
      · obtain rfl : j = G.length := by omega
        rw [ex]
        exact ⟨by rw [hp]; omega, hs⟩
    · simp at hj
      by_cases hjl : j < G.length
      · rw [e j hjl]
        rcases h4 j hjl with h | ⟨i, hi, h, hq⟩
        · exact .inl h
        · exact .inr ⟨i, by simp; omega, h, by rw [e i hi]; exact hq⟩
      · obtain rfl : j = G.length := by omega
        rw [ex]
        exact .inl hx
    · rw [Int.toNat_natCast] at hj h5
      have hpe : ∀ j, j < G.length → pr G j = pr (G ++ [x]) j := fun j hj => by unfold pr; rw [e j hj]
      rw [← way_congr h.low hkl hpe] at hj
      have hw := way_le h.low hkl hj
      have hq := h.par_lt hw.1 (by omega)
      rw [← hpe j (by omega), e _ (by omega)]
      exact h5 j hj
  have hxl : at' (G ++ [x]) G.length = x := by rw [at'_app, if_neg (by omega), if_pos rfl]
  have hpx : pr (G ++ [x]) G.length = k := by unfold pr; rw [hxl, hp, Int.toNat_natCast]
  have := right_next (G := G ++ [x]) (i := G.length) h.pos (by simp) (by rw [hpx]; exact hA)
  rw [hpx] at this
  have e1 : at' (G ++ [x]) k = at' G k := by rw [at'_app, if_pos hkl]
  rw [e1, List.set_append_left _ _ hkl] at this
  unfold addG
  rw [Int.toNat_natCast]
  exact this
end Go.Proofs.Ytaahklapoppgaaa

