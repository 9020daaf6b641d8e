/- Marks within bounds: what crossings make of them; histories stay right; there and back. -/
import Derived.Test.YtaahklapoppgaaaPm27
import Derived.Test.YtaahklapoppgaaaPm23
namespace Go.Proofs.Ytaahklapoppgaaa
open Go.RowKit

/-- marks from -1 to b -/
def Bd (b : Int) (L : List Int) : Prop := ∀ x ∈ L, -1 ≤ x ∧ x ≤ b
theorem Bd.mono {b c : Int} {L : List Int} (h : Bd b L) (hc : b ≤ c) : Bd c L := fun x hx => by have := h x hx; omega
theorem Bd.mok {b : Int} {L : List Int} (h : Bd b L) : MOk L := fun x hx => (h x hx).1
theorem Bd.getD {b : Int} {L : List Int} (h : Bd b L) (hb : 0 ≤ b) (j : Nat) : -1 ≤ L.getD j 0 ∧ L.getD j 0 ≤ b := by
  rw [List.getD_eq_getElem?_getD]
  cases e : L[j]? with
  | none => simp; omega
  | some x => exact h x (List.mem_of_getElem? e)
theorem MOk.getD {L : List Int} (h : MOk L) (j : Nat) : -1 ≤ L.getD j 0 := by
  rw [List.getD_eq_getElem?_getD]
  cases e : L[j]? with
  | none => simp
  | some x => exact h x (List.mem_of_getElem? e)
theorem wrap_id {a : Int} (h1 : -9223372036854775808 ≤ a) (h2 : a ≤ 9223372036854775807) : wrap64 a = a := by unfold wrap64; omega
theorem bhd_bd {x a b : Int} {o n : Nat} (hx : -1 ≤ x ∧ x ≤ b) (ha : 0 ≤ a ∧ a ≤ 2147483647) (ho : (o : Int) ≤ 4611686018427387904) (hb : b + (n : Int) ≤ 4611686018427387904) (_hb0 : 0 ≤ b) : -1 ≤ bhd x a o n ∧ bhd x a o n ≤ b + (n : Int) := by
  unfold bhd
  split
  · omega
  · rename_i h
    rw [wrap_id (a := a + (o : Int)) (by omega) (by omega), wrap_id (a := x + (n : Int)) (by omega) (by omega), wrap_id (a := x - a) (by omega) (by omega)]
    split
    · rw [wrap_id (by omega) (by omega)]; omega
    · rw [wrap_id (by omega) (by omega)]; omega
/-- edits at places, of at most q bytes taken out and put in -/
structure EdB (q : Nat) (D : List Ed) : Prop where
  p : ∀ d ∈ D, 0 ≤ d.a ∧ d.a ≤ 2147483647
  o : osum D ≤ q
  n : nsum D ≤ q
theorem osum_mem {D : List Ed} {d : Ed} (h : d ∈ D) : d.O.length ≤ osum D := by
  unfold osum
  induction D with
  | nil => cases h
  | cons x D ih =>
    rcases List.mem_cons.1 h with rfl | h
    · simp
    · have := ih h; simp; omega
theorem mv_bd : ∀ (D : List Ed) (L : List Int) (b : Int), Bd b L → 0 ≤ b → (∀ d ∈ D, (0 ≤ d.a ∧ d.a ≤ 2147483647) ∧ (d.O.length : Int) ≤ 4611686018427387904) → b + (nsum D : Int) ≤ 4611686018427387904 → Bd (b + (nsum D : Int)) (mvL L (D.map Ed.t))
  | [], L, b, h, _, _, _ => by
    have e : nsum [] = 0 := rfl
    rw [e]
    exact h.mono (by omega)
  | d :: D, L, b, h, h0, hD, hb => by
    have e : nsum (d :: D) = d.N.length + nsum D := by simp [nsum]
    rw [e] at hb ⊢
    have hd := hD d (by simp)
    have h1 : Bd (b + (d.N.length : Int)) (shl L d.a d.O.length d.N.length) := fun x hx => by
      unfold shl at hx
      obtain ⟨y, hy, rfl⟩ := List.mem_map.1 hx
      exact bhd_bd (h y hy) hd.1 hd.2 (by omega) h0
    have h2 := mv_bd D _ _ h1 (by omega) (fun x hx => hD x (by simp [hx])) (by omega)
    exact Bd.mono (by exact h2) (by omega)
theorem EdB.mv {q : Nat} {D : List Ed} {L : List Int} {b : Int} (h : EdB q D) (hL : Bd b L) (h0 : 0 ≤ b) (hb : b + (q : Int) ≤ 4611686018427387904) : Bd (b + (q : Int)) (mvL L (D.map Ed.t)) := by
  have := h.n
  have ho := h.o
  exact (mv_bd D L b hL h0 (fun d hd => ⟨h.p d hd, by have := osum_mem hd; omega⟩) (by omega)).mono (by omega)
theorem crs_mem {m was made : List Int} {D : List Ed} {x : Int} (h : x ∈ crs m was made D) : ∃ j, j < 27 ∧ (x = was.getD j 0 ∨ x = (mvL m (D.map Ed.t)).getD j 0) := by
  unfold crs crL at h
  obtain ⟨j, hj, rfl⟩ := List.mem_map.1 h
  refine ⟨j, List.mem_range.1 hj, ?_⟩
  split
  · exact .inl rfl
  · exact .inr rfl
theorem crs_bd {q : Nat} {D : List Ed} {m was made : List Int} {b : Int} (h : EdB q D) (hm : Bd b m) (hw : Bd b was) (h0 : 0 ≤ b) (hb : b + (q : Int) ≤ 4611686018427387904) : Bd (b + (q : Int)) (crs m was made D) := fun x hx => by
  obtain ⟨j, -, rfl | rfl⟩ := crs_mem hx
  · have := hw.getD h0 j; omega
  · exact (h.mv hm h0 hb).getD (by omega) j
theorem crs_mok {q : Nat} {D : List Ed} {m was made : List Int} {b : Int} (h : EdB q D) (hm : Bd b m) (hw : MOk was) (h0 : 0 ≤ b) (hb : b + (q : Int) ≤ 4611686018427387904) : MOk (crs m was made D) := fun x hx => by
  obtain ⟨j, -, rfl | rfl⟩ := crs_mem hx
  · exact hw.getD j
  · exact ((h.mv hm h0 hb).getD (by omega) j).1
/-- a mark that is still where the last crossing put it goes back -/
theorem crs_back {m k : List Int} {D : List Ed} (hm : m.length = 27) : crs k m k D = m := by
  unfold crs crL
  apply List.ext_getElem?
  intro j
  rw [List.getElem?_map]
  by_cases hj : j < 27
  · rw [List.getElem?_range hj, List.getElem?_eq_getElem (by omega)]
    simp [hj, List.getD_eq_getElem?_getD, List.getElem?_eq_getElem (show j < m.length by omega)]
  · rw [List.getElem?_eq_none (by simp; omega), List.getElem?_eq_none (by omega)]; rfl
theorem osum_inv (D : List Ed) : osum (inv D) = nsum D := by
  unfold osum nsum inv
  rw [List.map_reverse, List.sum_reverse, List.map_map]; rfl
theorem nsum_inv (D : List Ed) : nsum (inv D) = osum D := by
  unfold osum nsum inv
  rw [List.map_reverse, List.sum_reverse, List.map_map]; rfl
theorem EdB.inv {q : Nat} {D : List Ed} (h : EdB q D) : EdB q (inv D) := ⟨fun d hd => by
    unfold Go.Proofs.Ytaahklapoppgaaa.inv at hd
    rw [List.mem_reverse] at hd
    obtain ⟨x, hx, rfl⟩ := List.mem_map.1 hd
    exact h.p x hx, by rw [osum_inv]; exact h.n, by rw [nsum_inv]; exact h.o⟩
/-- of all changes -/
def EdG (q : Nat) (G : List Nd) : Prop := ∀ i, i < G.length → osum (at' G i).ed ≤ q ∧ nsum (at' G i).ed ≤ q
theorem Right.edb {G : List Nd} {now : Int} {q i : Nat} (h : Right G now) (hq : EdG q G) (h0 : 0 < i) (hi : i < G.length) : EdB q (at' G i).ed := ⟨fun d hd => (((h.hng i _ h0 (at'_some hi)).2).2.2.1 d hd).1, (hq i hi).1, (hq i hi).2⟩
theorem EdG.sk {q : Nat} {G H : List Nd} (h : EdG q G) (hl : H.length = G.length) (hs : ∀ j, sk (at' H j) = sk (at' G j)) : EdG q H := fun i hi => by rw [ed_sk (hs i)]; exact h i (by omega)
/-- all marks of a walk -/
structure Bw (b : Int) (s : Wk) : Prop where
  m : Bd b s.m
  nds : ∀ i, 0 < i → i < s.G.length → Bd b (at' s.G i).was ∧ Bd b (at' s.G i).made
theorem Bw.up {b : Int} {s : Wk} {i q : Nat} (h : Bw b s) (h0 : 0 < i) (hi : i < s.G.length) (he : EdB q (at' s.G i).ed) (hb0 : 0 ≤ b) (hb : b + (q : Int) ≤ 4611686018427387904) : Bw (b + (q : Int)) (s.up i) := by
  have hk : Bd (b + (q : Int)) (crs s.m (at' s.G i).was (at' s.G i).made (inv (at' s.G i).ed)) := crs_bd he.inv h.m (h.nds i h0 hi).1 hb0 hb
  refine ⟨hk, fun j hj0 hj => ?_⟩
  rw [s.up_len] at hj
  unfold Wk.up
  rw [getD_set]
  split
  · exact ⟨h.m.mono (by omega), hk⟩
  · exact ⟨(h.nds j hj0 hj).1.mono (by omega), (h.nds j hj0 hj).2.mono (by omega)⟩
theorem Bw.down {b : Int} {s : Wk} {i q : Nat} (h : Bw b s) (h0 : 0 < i) (hi : i < s.G.length) (he : EdB q (at' s.G i).ed) (hb0 : 0 ≤ b) (hb : b + (q : Int) ≤ 4611686018427387904) : Bw (b + (q : Int)) (s.down i) := by
  have hk : Bd (b + (q : Int)) (crs s.m (at' s.G i).was (at' s.G i).made (at' s.G i).ed) := crs_bd he h.m (h.nds i h0 hi).1 hb0 hb
  have h1 : ∀ j, 0 < j → j < s.G.length → Bd (b + (q : Int)) (at' (s.dn1 i) j).was ∧ Bd (b + (q : Int)) (at' (s.dn1 i) j).made := fun j hj0 hj => by
    unfold Wk.dn1
    rw [getD_set]
    split
    · exact ⟨h.m.mono (by omega), hk⟩
    · exact ⟨(h.nds j hj0 hj).1.mono (by omega), (h.nds j hj0 hj).2.mono (by omega)⟩
  refine ⟨hk, fun j hj0 hj => ?_⟩
  rw [s.down_len] at hj
  unfold Wk.down
  dsimp only
  rw [getD_set]
  split
  · rename_i e; rw [← e.1] at hj0 hj; exact h1 _ hj0 hj
  · exact h1 j hj0 hj
/-- a way up, all of it right -/
theorem foldU_right {q : Nat} : ∀ {U : List Nat} {s : Wk} {i c : Nat} {b : Int}, Right s.G s.now → s.now = (i : Int) → Up (pr s.G) i U c → EdG q s.G → Bw b s → 0 ≤ b → b + (U.length : Int) * (q : Int) ≤ 4611686018427387904 → Right (U.foldl Wk.up s).G (U.foldl Wk.up s).now ∧ (U.foldl Wk.up s).now = (c : Int) ∧ Bw (b + (U.length : Int) * (q : Int)) (U.foldl Wk.up s)
  | [], s, i, c, b, hr, hn, hu, _, hb, _, _ => by
    have e : i = c := hu
    subst e
    exact ⟨hr, hn, by simpa using hb⟩
  | x :: U, s, i, c, b, hr, hn, hu, hq, hb, h0, hB => by
    have e := hu.1
    subst e
    have hx0 := hu.2.1
    have hx : x < s.G.length := by have := hr.sz.2; omega
    have he := hr.edb hq hx0 hx
    have e2 : ((x :: U).length : Int) * (q : Int) = (q : Int) + (U.length : Int) * (q : Int) := by simp only [List.length_cons, Int.natCast_add, Int.add_mul]; omega
    rw [e2] at hB ⊢
    have hq0 : 0 ≤ (U.length : Int) * (q : Int) := Int.mul_nonneg (by omega) (by omega)
    have hb1 : b + (q : Int) ≤ 4611686018427387904 := by omega
    have hw := hb.up hx0 hx he h0 hb1
    have hr1 := right_up hr hn hx0 hb.m.mok hw.m.mok
    have hn1 : (s.up x).now = ((pr s.G x : Nat) : Int) := (hr.par_lt hx0 hx).2
    have hpr : ∀ j, pr s.G j = pr (s.up x).G j := fun j => (pr_sk (s.up_sk x j)).symm
    have := foldU_right (s := s.up x) (b := b + (q : Int)) hr1 hn1 (Up.congr hpr hu.2.2) (hq.sk (s.up_len x) (s.up_sk x)) hw (by omega) (by omega)
    rw [show b + ((q : Int) + (U.length : Int) * (q : Int)) = b + (q : Int) + (U.length : Int) * (q : Int) by omega]
    exact this
/-- and a way down -/
theorem foldD_right {q : Nat} : ∀ {l : List Nat} {s : Wk} {j c : Nat} {b : Int}, Right s.G s.now → s.now = (c : Int) → j < s.G.length → Up (pr s.G) j l c → EdG q s.G → Bw b s → 0 ≤ b → b + (l.length : Int) * (q : Int) ≤ 4611686018427387904 → Right (l.reverse.foldl Wk.down s).G (l.reverse.foldl Wk.down s).now ∧ (l.reverse.foldl Wk.down s).now = (j : Int) ∧ Bw (b + (l.length : Int) * (q : Int)) (l.reverse.foldl Wk.down s)
  | [], s, j, c, b, hr, hn, _, hu, _, hb, _, _ => by
    have e : j = c := hu
    subst e
    exact ⟨hr, hn, by simpa using hb⟩
  | x :: l, s, j, c, b, hr, hn, hj, hu, hq, hb, h0, hB => by
    have e := hu.1
    subst e
    have hx0 := hu.2.1
    have e2 : ((x :: l).length : Int) * (q : Int) = (q : Int) + (l.length : Int) * (q : Int) := by simp only [List.length_cons, Int.natCast_add, Int.add_mul]; omega
    rw [e2] at hB ⊢
    have hq0 : 0 ≤ (l.length : Int) * (q : Int) := Int.mul_nonneg (by omega) (by omega)
    have hpl := (hr.par_lt hx0 hj).1
    obtain ⟨h1, h2, h3⟩ := foldD_right (l := l) (j := pr s.G x) hr hn (by omega) hu.2.2 hq hb h0 (by omega)
    rw [List.reverse_cons, List.foldl_append]
    generalize hs : l.reverse.foldl Wk.down s = s1 at *
    have hl1 : s1.G.length = s.G.length := by rw [← hs]; exact foldD_len _ _
    have hk1 : ∀ k, sk (at' s1.G k) = sk (at' s.G k) := fun k => by rw [← hs]; exact foldD_sk _ _ k
    have hp1 : pr s1.G x = pr s.G x := pr_sk (hk1 x)
    have he := h1.edb (hq.sk hl1 hk1) hx0 (by omega)
    have hw := h3.down hx0 (by omega) he (by omega) (by omega)
    have hr2 := right_down h1 hx0 (by omega) (by rw [hp1]; exact h2) h3.m.mok hw.m.mok
    refine ⟨hr2, rfl, ?_⟩
    rw [show b + ((q : Int) + (l.length : Int) * (q : Int)) = b + (l.length : Int) * (q : Int) + (q : Int) by omega]
    exact hw
/-- a whole path -/
theorem go_right {q : Nat} {G : List Nd} {now : Int} {m : List Int} {j : Nat} {b : Int} (hr : Right G now) (hj : j < G.length) (hq : EdG q G) (hb : Bw b (Wk.new G now m)) (h0 : 0 ≤ b) (hB : b + 8194 * (q : Int) ≤ 4611686018427387904) :
    Right ((Wk.new G now m).go (pathU G now.toNat j) (pathD G now.toNat j)).G ((Wk.new G now m).go (pathU G now.toNat j) (pathD G now.toNat j)).now ∧ ((Wk.new G now m).go (pathU G now.toNat j) (pathD G now.toNat j)).now = (j : Int) ∧ Bw (b + 8194 * (q : Int)) ((Wk.new G now m).go (pathU G now.toNat j) (pathD G now.toNat j)) := by
  obtain ⟨i, rfl⟩ : ∃ i : Nat, now = (i : Int) := ⟨now.toNat, by have := hr.sz.2; omega⟩
  have hi := hr.now_lt
  rw [Int.toNat_natCast] at hi ⊢
  obtain ⟨-, -, l1, l2, -⟩ := path_in (i := i) (j := j) hr.low hi hj
  obtain ⟨c, u1, u2⟩ := path_ok (i := i) (j := j) hr.low hi hj
  have hsz := hr.sz.1
  have m1 : ((pathU G i j).length : Int) * (q : Int) ≤ 4097 * (q : Int) := Int.mul_le_mul_of_nonneg_right (by omega) (by omega)
  have m2 : ((strip (way (pr G) i) (way (pr G) j)).2.length : Int) * (q : Int) ≤ 4097 * (q : Int) := Int.mul_le_mul_of_nonneg_right (by unfold pathD at l2; rw [List.length_reverse] at l2; omega) (by omega)
  have p1 : 0 ≤ ((pathU G i j).length : Int) * (q : Int) := Int.mul_nonneg (by omega) (by omega)
  obtain ⟨h1, h2, h3⟩ := foldU_right (s := Wk.new G (i : Int) m) (U := pathU G i j) (i := i) (c := c) hr rfl u1 hq hb h0 (by omega)
  unfold Wk.go
  generalize hs : (pathU G i j).foldl Wk.up (Wk.new G (i : Int) m) = s1 at *
  have hl1 : s1.G.length = G.length := by rw [← hs]; exact foldU_len _ _
  have hk1 : ∀ k, sk (at' s1.G k) = sk (at' G k) := fun k => by rw [← hs]; exact foldU_sk _ _ k
  obtain ⟨g1, g2, g3⟩ := foldD_right (s := s1) (l := (strip (way (pr G) i) (way (pr G) j)).2) (j := j) (c := c) h1 h2 (by omega) (Up.congr (fun k => (pr_sk (hk1 k)).symm) u2) (hq.sk hl1 hk1) h3 (by omega) (by omega)
  refine ⟨g1, g2, ?_⟩
  have g4 : Bw _ ((pathD G i j).foldl Wk.down s1) := g3
  exact ⟨g4.m.mono (by omega), fun k k0 hk => ⟨(g4.nds k k0 hk).1.mono (by omega), (g4.nds k k0 hk).2.mono (by omega)⟩⟩
end Go.Proofs.Ytaahklapoppgaaa
