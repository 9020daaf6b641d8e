/- The contracts of fit and of build. -/
import Derived.Test.YtpifjghhlcjedaaSplit
namespace Go.Proofs.Ytpifjghhlcjedaa
open Go.RowKit

/-- Is a piece of n bytes and k line ends fit? -/
def fitB (n k : Int) : Bool := decide (1 ≤ n ∧ n ≤ 2147483647 ∧ 0 ≤ k ∧ k ≤ n)
theorem fitB_iff (s o n k : Int) : fitB n k = true ↔ Pc.fit ⟨s, o, n, k⟩ := by unfold fitB Pc.fit; simp

theorem ret_bool {a b : Bool} (h : a = b) : Ending.returned (.bool a) = .returned (.bool b) := by rw [h]

set_option maxHeartbeats 400000 in
theorem fit_any (s o n k : Int) (w : World) :
    Calls Try.prog 53 #[.agg #[.int .i64 s, .int .i64 o, .int .i64 n, .int .i64 k]] w fun e w' => e = .returned (.bool (fitB n k)) ∧ w' = w.alloc (.cells #[.int .i64 s, .int .i64 o, .int .i64 n, .int .i64 k] 32) := by
  go_enter Try.func53, Try.ntmps53
  go_wp2
  all_goals go_ret
  all_goals refine ⟨ret_bool ?_, rfl⟩
  all_goals (rw [Bool.eq_iff_iff]; unfold fitB; simp only [decide_eq_true_eq]; first | omega | (simp; done) | (simp; omega))

set_option maxHeartbeats 400000 in
theorem refFit_any (s o n k : Int) (w : World) :
    Calls Try.prog 11 #[.agg #[.int .i64 s, .int .i64 o, .int .i64 n, .int .i64 k]] w fun e w' => e = .returned (.bool (fitB n k)) ∧ w' = w.alloc (.cells #[.int .i64 s, .int .i64 o, .int .i64 n, .int .i64 k] 32) := by
  go_enter Try.func11, Try.ntmps11
  go_wp2
  all_goals go_ret
  all_goals refine ⟨ret_bool ?_, rfl⟩
  all_goals (rw [Bool.eq_iff_iff]; unfold fitB; simp only [decide_eq_true_eq]; first | omega | (simp; done) | (simp; omega))

/-- The pieces of L lie one behind the other in block b of W, from the cell off on. -/
def Row (W : World) (b off : Nat) (L : List Pc) : Prop :=
  ∀ j p, L[j]? = some p → W.cell? ⟨b, off + j * 4, none⟩ = some (.int .i64 p.s) ∧ W.cell? ⟨b, off + j * 4 + 1, none⟩ = some (.int .i64 p.o) ∧ W.cell? ⟨b, off + j * 4 + 2, none⟩ = some (.int .i64 p.l) ∧ W.cell? ⟨b, off + j * 4 + 3, none⟩ = some (.int .i64 p.n)

set_option maxHeartbeats 400000 in
theorem build_nil (ao : Option Addr) (c : Nat) (w : World) : Calls Try.prog 54 #[.slice ao 0 c] w fun e w' => e = .returned (.pointer none) ∧ w' = w := by
  go_enter Try.func54, Try.ntmps54
  go_wp2
  go_ret
  exact ⟨rfl, rfl⟩

/-- A list value whose pieces are L. -/
def Rdb (W : World) (v : Value) (L : List Pc) : Prop := ∃ ao n c, v = .slice ao n c ∧ n = L.length ∧ n ≤ c ∧ (L = [] ∨ ∃ b off, ao = some ⟨b, off, none⟩ ∧ Row W b off L)

theorem cell_lt {w : World} {b j : Nat} {v : Value} (h : w.cell? ⟨b, j, none⟩ = some v) : b < w.heap.size := by
  rcases Nat.lt_or_ge b w.heap.size with h' | h'
  · exact h'
  · simp [World.cell?, Array.getElem?_eq_none h'] at h
theorem Row.keep {w w' : World} {b off : Nat} {L : List Pc} (h : Row w b off L) (hb : Below w.heap.size w w') : Row w' b off L := by
  intro j p hj
  obtain ⟨h0, h1, h2, h3⟩ := h j p hj
  have lt := cell_lt h0
  refine ⟨?_, ?_, ?_, ?_⟩ <;> (rw [hb.cell lt]; assumption)
theorem Row.take {w : World} {b off : Nat} {L : List Pc} (h : Row w b off L) (m : Nat) : Row w b off (L.take m) := by
  intro j p hj
  rw [List.getElem?_take] at hj
  split at hj
  · exact h j p hj
  · cases hj
theorem Row.drop {w : World} {b off : Nat} {L : List Pc} (h : Row w b off L) (m : Nat) : Row w b (off + m * 4) (L.drop m) := by
  intro j p hj
  rw [List.getElem?_drop] at hj
  have := h (m + j) p hj
  rw [show off + (m + j) * 4 = off + m * 4 + j * 4 from by omega] at this
  exact this
theorem fineL_parts {L : List Pc} {m : Nat} {p : Pc} (h : fineL L) (hp : L[m]? = some p) : fineL (L.take m ++ p :: L.drop (m + 1)) := by
  have e := List.getElem?_eq_some_iff.1 hp
  have : L.take m ++ p :: L.drop (m + 1) = L := by
    conv => rhs; rw [← List.take_append_drop m L, List.drop_eq_getElem_cons e.1, e.2]
  rw [this]; exact h
/-- the cells of one piece of a row -/
theorem row4 {w : World} {b off m : Nat} {L : List Pc} {s o n k : Int} (h : Row w b off L) (hp : L[m]? = some ⟨s, o, n, k⟩) :
    w.cell? ⟨b, off + m * 4, none⟩ = some (.int .i64 s) ∧ w.cell? ⟨b, off + m * 4 + 1, none⟩ = some (.int .i64 o) ∧ w.cell? ⟨b, off + m * 4 + 2, none⟩ = some (.int .i64 n) ∧ w.cell? ⟨b, off + m * 4 + 3, none⟩ = some (.int .i64 k) := h m _ hp

set_option maxHeartbeats 4000000 in
theorem build_some (b off c N m : Nat) (L : List Pc) (s o n k : Int) (hN : Hid (N = L.length)) (hc : N ≤ c) (hcc : ¬ c = m + 1) (hz : N ≤ 1048576) (hmd : Hid (m = N / 2)) (hp : Hid (L[m]? = some ⟨s, o, n, k⟩)) (hfi : Hid (fineL L)) (w : World) (h : Hid (Row w b off L))
    (IH : Hid (∀ L' w v, L'.length < L.length → fineL L' → Rdb w v L' → Calls Try.prog 54 #[v] w fun e w' => Gave w (Tr.buildT L') e w')) :
    Calls Try.prog 54 #[.slice (some ⟨b, off, none⟩) N c] w fun e w' => Gave w (Tr.buildT L) e w' := by
  have hlt : m < N := by have := (List.getElem?_eq_some_iff.1 hp.out).1; have := hN.out; omega
  have hne : ((N : Int) == 0) = false := by rw [beq_eq_false_iff_ne]; omega
  have hq : Hid ((N : Int) / 2 = (m : Int)) := by have := hmd.out; unfold Hid; omega
  have i1 : (0 : Int) ≤ (m : Int) := by omega
  have i2 : (m : Int) < (N : Int) := by omega
  have i3 : (m : Int) ≤ (c : Int) := by omega
  have i4 : (m : Int) + 1 ≤ (N : Int) := by omega
  have i5 : (0 : Int) ≤ (m : Int) + 1 := by omega
  have i7 : (m : Int) + 1 ≤ (c : Int) := by omega
  have i6 : (N : Int) ≤ (c : Int) := by omega
  have hw : IntKind.i64.wrap ((m : Int) + 1) = (m : Int) + 1 := by rw [IntKind.wrap_i64]; omega
  obtain ⟨r0, r1, r2, r3⟩ := row4 h.out hp.out
  have B1 : Hid (∀ w', Below w.heap.size w w' → Calls Try.prog 54 #[.slice (some ⟨b, off, none⟩) m c] w' fun e w'' => Gave w' (Tr.buildT (L.take m)) e w'') := fun w' hb =>
    IH.out _ _ _ (by have := hN.out; simp only [List.length_take]; omega) (hfi.out.sub (List.take_sublist _ _)) ⟨_, _, _, rfl, by have := hN.out; simp only [List.length_take]; omega, by omega, .inr ⟨b, off, rfl, (h.out.take m).keep hb⟩⟩
  have J : Hid (∀ x y w', At w' (Tr.buildT (L.take m)) x → At w' (Tr.buildT (L.drop (m + 1))) y → Calls Try.prog 56 #[.pointer x, .agg #[.int .i64 s, .int .i64 o, .int .i64 n, .int .i64 k], .pointer y] w' fun e w'' => Gave w' (Tr.buildT L) e w'') := fun x y w' hx hy => by
    have e := Tr.buildT_some (l := L) (p := ⟨s, o, n, k⟩) (by rw [← hN.out, ← hmd.out]; exact hp.out)
    rw [← hN.out, ← hmd.out] at e
    rw [e]
    obtain ⟨a1, a2⟩ := Tr.buildT_ok _ (L.take m) (Nat.le_refl _)
    obtain ⟨b1, b2⟩ := Tr.buildT_ok _ (L.drop (m + 1)) (Nat.le_refl _)
    exact join_any s o n k _ _ x y w' (by rw [a2, b2]; exact fineL_parts hfi.out hp.out) a1 b1 hx hy
  have B2 : Hid (∀ w', Below w.heap.size w w' → Calls Try.prog 54 #[.slice (some ⟨b, off + (m + 1) * 4, none⟩) (N - (m + 1)) (c - (m + 1))] w' fun e w'' => Gave w' (Tr.buildT (L.drop (m + 1))) e w'') := fun w' hb =>
    IH.out _ _ _ (by have := hN.out; simp only [List.length_drop]; omega) (hfi.out.sub (List.drop_sublist _ _)) ⟨_, _, _, rfl, by have := hN.out; simp only [List.length_drop]; omega, by omega, .inr ⟨b, _, rfl, (h.out.drop (m + 1)).keep hb⟩⟩
  clear IH
  go_enter Try.func54, Try.ntmps54
  go_wp2
  rw [hq.out]
  go_region_held3 (fun w' => w'.cell? ⟨b, off + m * 4, none⟩ = some (.int .i64 s) ∧ w'.cell? ⟨b, off + m * 4 + 1, none⟩ = some (.int .i64 o) ∧ w'.cell? ⟨b, off + m * 4 + 2, none⟩ = some (.int .i64 n) ∧ w'.cell? ⟨b, off + m * 4 + 3, none⟩ = some (.int .i64 k)) (first | assumption | simp [*, go_sem])
    (first | (go_at_call_of 54 (Value.slice (some ⟨b, off, none⟩) m c); refine (B1.out _ (Below.refl _ _).drew).mono ?_; rintro e w9 ⟨x9, rfl, hx9, hb9⟩; have k9 := row4 (h.out.keep (bD hb9)) hp.out)
           | (go_at_call 54; refine (B2.out _ (bD hb9)).mono ?_; rintro e w8 ⟨y8, rfl, hy8, hb8⟩; have k8 := row4 ((h.out.keep (bD hb9)).keep hb8) hp.out)
           | (go_at_call 56; refine (J.out _ _ _ (hx9.keep hb8) hy8).mono ?_; rintro e w7 ⟨z7, rfl, hz7, hb7⟩; have k7 := row4 (((h.out.keep (bD hb9)).keep hb8).keep hb7) hp.out))
  go_wp2
  go_ret
  exact ⟨_, rfl, hz7, (bD hb9).trans ((hb8.trans (hb7.mono hb8.size)).mono (bD hb9).size)⟩


set_option maxHeartbeats 4000000 in
theorem build_one (b off : Nat) (L : List Pc) (s o n k : Int) (hN : Hid (L.length = 1)) (hp : Hid (L[0]? = some ⟨s, o, n, k⟩)) (hfi : Hid (fineL L)) (w : World) (h : Hid (Row w b off L))
    (IH : Hid (∀ L' w v, L'.length < L.length → fineL L' → Rdb w v L' → Calls Try.prog 54 #[v] w fun e w' => Gave w (Tr.buildT L') e w')) :
    Calls Try.prog 54 #[.slice (some ⟨b, off, none⟩) 1 1] w fun e w' => Gave w (Tr.buildT L) e w' := by
  obtain ⟨r0, r1, r2, r3⟩ := row4 h.out hp.out
  simp only [Nat.zero_mul, Nat.add_zero] at r0 r1 r2 r3
  have B1 : Hid (∀ w', Below w.heap.size w w' → Calls Try.prog 54 #[.slice (some ⟨b, off, none⟩) 0 1] w' fun e w'' => Gave w' (Tr.buildT (L.take 0)) e w'') := fun w' hb =>
    IH.out _ _ _ (by have := hN.out; simp only [List.length_take]; omega) (hfi.out.sub (List.take_sublist _ _)) ⟨_, _, _, rfl, by have := hN.out; simp only [List.length_take]; omega, by omega, .inr ⟨b, off, rfl, (h.out.take 0).keep hb⟩⟩
  have J : Hid (∀ x y w', At w' (Tr.buildT (L.take 0)) x → At w' (Tr.buildT (L.drop (0 + 1))) y → Calls Try.prog 56 #[.pointer x, .agg #[.int .i64 s, .int .i64 o, .int .i64 n, .int .i64 k], .pointer y] w' fun e w'' => Gave w' (Tr.buildT L) e w'') := fun x y w' hx hy => by
    have e := Tr.buildT_some (l := L) (p := ⟨s, o, n, k⟩) (by rw [hN.out]; exact hp.out)
    rw [hN.out] at e
    rw [e]
    obtain ⟨a1, a2⟩ := Tr.buildT_ok _ (L.take 0) (Nat.le_refl _)
    obtain ⟨b1, b2⟩ := Tr.buildT_ok _ (L.drop (0 + 1)) (Nat.le_refl _)
    exact join_any s o n k _ _ x y w' (by rw [a2, b2]; exact fineL_parts hfi.out hp.out) a1 b1 hx hy
  have B2 : Hid (∀ w' ao, Below w.heap.size w w' → Calls Try.prog 54 #[.slice ao 0 0] w' fun e w'' => Gave w' (Tr.buildT (L.drop (0 + 1))) e w'') := fun w' ao hb =>
    IH.out _ _ _ (by have := hN.out; simp only [List.length_drop]; omega) (hfi.out.sub (List.drop_sublist _ _)) ⟨_, _, _, rfl, by have := hN.out; simp only [List.length_drop]; omega, by omega, .inl (by have := hN.out; exact List.drop_of_length_le (by omega))⟩
  have R4 : Hid (∀ w', Below w.heap.size w w' → w'.cell? ⟨b, off, none⟩ = some (.int .i64 s) ∧ w'.cell? ⟨b, off + 1, none⟩ = some (.int .i64 o) ∧ w'.cell? ⟨b, off + 2, none⟩ = some (.int .i64 n) ∧ w'.cell? ⟨b, off + 3, none⟩ = some (.int .i64 k)) := fun w' hb => by
    have := row4 (h.out.keep hb) hp.out
    simpa only [Nat.zero_mul, Nat.add_zero] using this
  have hw1 : IntKind.i64.wrap 1 = 1 := by rw [IntKind.wrap_i64]; omega
  have hw2 : IntKind.i64.wrap 2 = 2 := by rw [IntKind.wrap_i64]; omega
  clear IH
  go_enter Try.func54, Try.ntmps54
  go_wp2
  go_region_held3 (fun w' => w'.cell? ⟨b, off, none⟩ = some (.int .i64 s) ∧ w'.cell? ⟨b, off + 1, none⟩ = some (.int .i64 o) ∧ w'.cell? ⟨b, off + 2, none⟩ = some (.int .i64 n) ∧ w'.cell? ⟨b, off + 3, none⟩ = some (.int .i64 k)) (first | assumption | simp [*, go_sem])
    (first | (go_at_call_of 54 (Value.slice (some ⟨b, off, none⟩) 0 1); refine (B1.out _ (Below.refl _ _).drew).mono ?_; rintro e w9 ⟨x9, rfl, hx9, hb9⟩; have k9 := R4.out _ (bD hb9))
           | (go_at_call 54; refine (B2.out _ _ (bD hb9)).mono ?_; rintro e w8 ⟨y8, rfl, hy8, hb8⟩; have k8 := R4.out _ ((bD hb9).trans (hb8.mono (bD hb9).size)))
           | (go_at_call 56; refine (J.out _ _ _ (hx9.keep hb8) hy8).mono ?_; rintro e w7 ⟨z7, rfl, hz7, hb7⟩; have k7 := R4.out _ ((bD hb9).trans ((hb8.trans (hb7.mono hb8.size)).mono (bD hb9).size))))
  go_wp2
  go_ret
  exact ⟨_, rfl, hz7, (bD hb9).trans ((hb8.trans (hb7.mono hb8.size)).mono (bD hb9).size)⟩

set_option maxHeartbeats 4000000 in
theorem build_two (b off : Nat) (L : List Pc) (s o n k : Int) (hN : Hid (L.length = 2)) (hp : Hid (L[1]? = some ⟨s, o, n, k⟩)) (hfi : Hid (fineL L)) (w : World) (h : Hid (Row w b off L))
    (IH : Hid (∀ L' w v, L'.length < L.length → fineL L' → Rdb w v L' → Calls Try.prog 54 #[v] w fun e w' => Gave w (Tr.buildT L') e w')) :
    Calls Try.prog 54 #[.slice (some ⟨b, off, none⟩) 2 2] w fun e w' => Gave w (Tr.buildT L) e w' := by
  obtain ⟨r0, r1, r2, r3⟩ := row4 h.out hp.out
  simp only [Nat.one_mul, Nat.add_assoc, Nat.reduceAdd] at r0 r1 r2 r3
  have B1 : Hid (∀ w', Below w.heap.size w w' → Calls Try.prog 54 #[.slice (some ⟨b, off, none⟩) 1 2] w' fun e w'' => Gave w' (Tr.buildT (L.take 1)) e w'') := fun w' hb =>
    IH.out _ _ _ (by have := hN.out; simp only [List.length_take]; omega) (hfi.out.sub (List.take_sublist _ _)) ⟨_, _, _, rfl, by have := hN.out; simp only [List.length_take]; omega, by omega, .inr ⟨b, off, rfl, (h.out.take 1).keep hb⟩⟩
  have J : Hid (∀ x y w', At w' (Tr.buildT (L.take 1)) x → At w' (Tr.buildT (L.drop (1 + 1))) y → Calls Try.prog 56 #[.pointer x, .agg #[.int .i64 s, .int .i64 o, .int .i64 n, .int .i64 k], .pointer y] w' fun e w'' => Gave w' (Tr.buildT L) e w'') := fun x y w' hx hy => by
    have e := Tr.buildT_some (l := L) (p := ⟨s, o, n, k⟩) (by rw [hN.out]; exact hp.out)
    rw [hN.out] at e
    rw [e]
    obtain ⟨a1, a2⟩ := Tr.buildT_ok _ (L.take 1) (Nat.le_refl _)
    obtain ⟨b1, b2⟩ := Tr.buildT_ok _ (L.drop (1 + 1)) (Nat.le_refl _)
    exact join_any s o n k _ _ x y w' (by rw [a2, b2]; exact fineL_parts hfi.out hp.out) a1 b1 hx hy
  have B2 : Hid (∀ w' ao, Below w.heap.size w w' → Calls Try.prog 54 #[.slice ao 0 0] w' fun e w'' => Gave w' (Tr.buildT (L.drop (1 + 1))) e w'') := fun w' ao hb =>
    IH.out _ _ _ (by have := hN.out; simp only [List.length_drop]; omega) (hfi.out.sub (List.drop_sublist _ _)) ⟨_, _, _, rfl, by have := hN.out; simp only [List.length_drop]; omega, by omega, .inl (by have := hN.out; exact List.drop_of_length_le (by omega))⟩
  have R4 : Hid (∀ w', Below w.heap.size w w' → w'.cell? ⟨b, off + 4, none⟩ = some (.int .i64 s) ∧ w'.cell? ⟨b, off + 5, none⟩ = some (.int .i64 o) ∧ w'.cell? ⟨b, off + 6, none⟩ = some (.int .i64 n) ∧ w'.cell? ⟨b, off + 7, none⟩ = some (.int .i64 k)) := fun w' hb => by
    have := row4 (h.out.keep hb) hp.out
    simpa only [Nat.one_mul, Nat.add_assoc, Nat.reduceAdd] using this
  have hw1 : IntKind.i64.wrap 1 = 1 := by rw [IntKind.wrap_i64]; omega
  have hw2 : IntKind.i64.wrap 2 = 2 := by rw [IntKind.wrap_i64]; omega
  clear IH
  go_enter Try.func54, Try.ntmps54
  go_wp2
  go_region_held3 (fun w' => w'.cell? ⟨b, off + 4, none⟩ = some (.int .i64 s) ∧ w'.cell? ⟨b, off + 5, none⟩ = some (.int .i64 o) ∧ w'.cell? ⟨b, off + 6, none⟩ = some (.int .i64 n) ∧ w'.cell? ⟨b, off + 7, none⟩ = some (.int .i64 k)) (first | assumption | simp [*, go_sem])
    (first | (go_at_call_of 54 (Value.slice (some ⟨b, off, none⟩) 1 2); refine (B1.out _ (Below.refl _ _).drew).mono ?_; rintro e w9 ⟨x9, rfl, hx9, hb9⟩; have k9 := R4.out _ (bD hb9))
           | (go_at_call 54; refine (B2.out _ _ (bD hb9)).mono ?_; rintro e w8 ⟨y8, rfl, hy8, hb8⟩; have k8 := R4.out _ ((bD hb9).trans (hb8.mono (bD hb9).size)))
           | (go_at_call 56; refine (J.out _ _ _ (hx9.keep hb8) hy8).mono ?_; rintro e w7 ⟨z7, rfl, hz7, hb7⟩; have k7 := R4.out _ ((bD hb9).trans ((hb8.trans (hb7.mono hb8.size)).mono (bD hb9).size))))
  go_wp2
  go_ret
  exact ⟨_, rfl, hz7, (bD hb9).trans ((hb8.trans (hb7.mono hb8.size)).mono (bD hb9).size)⟩

theorem build_any (z : Nat) : ∀ (L : List Pc) (w : World) (v : Value), L.length ≤ z → fineL L → Rdb w v L → Calls Try.prog 54 #[v] w fun e w' => Gave w (Tr.buildT L) e w' := by
  induction z with
  | zero =>
    rintro L w _ hz hf ⟨ao, n, c, rfl, hn, hc, hr⟩
    have : L = [] := List.eq_nil_of_length_eq_zero (by omega)
    subst this
    have : n = 0 := hn
    subst this
    refine (build_nil ao c w).mono ?_
    rintro e w' ⟨rfl, rfl⟩
    rw [Tr.buildT_nil]
    exact ⟨_, rfl, rfl, Below.refl _ _⟩
  | succ z ih =>
    rintro L w _ hz hf ⟨ao, n, c, rfl, hn, hc, hr⟩
    rcases hp : L[n / 2]? with _ | ⟨s, o, l, k⟩
    · have := List.getElem?_eq_none_iff.1 hp
      have e : L = [] := List.eq_nil_of_length_eq_zero (by omega)
      subst e
      have : n = 0 := hn
      subst this
      refine (build_nil ao c w).mono ?_
      rintro e w' ⟨rfl, rfl⟩
      rw [Tr.buildT_nil]
      exact ⟨_, rfl, rfl, Below.refl _ _⟩
    · rcases hr with rfl | ⟨b, off, rfl, hr⟩
      · simp at hp
      · by_cases hcc : c = n / 2 + 1
        · have hlt := (List.getElem?_eq_some_iff.1 hp).1
          have : (n = 1 ∧ c = 1) ∨ (n = 2 ∧ c = 2) := by omega
          rcases this with ⟨rfl, rfl⟩ | ⟨rfl, rfl⟩
          · exact build_one b off L s o l k hn.symm hp hf w hr (fun L' w v h1 h2 h3 => ih L' w v (by omega) h2 h3)
          · exact build_two b off L s o l k hn.symm hp hf w hr (fun L' w v h1 h2 h3 => ih L' w v (by omega) h2 h3)
        · exact build_some b off c n (n / 2) L s o l k hn hc hcc (by have := hf.2; omega) rfl hp hf w hr (fun L' w v h1 h2 h3 => ih L' w v (by omega) h2 h3)
end Go.Proofs.Ytpifjghhlcjedaa
