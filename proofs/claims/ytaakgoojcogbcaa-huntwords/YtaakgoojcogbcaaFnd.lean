/- What a search tells (pure): one place after the other. -/
import Derived.Test.YtaakgoojcogbcaaRun
namespace Go.Proofs.Ytaakgoojcogbcaa
open Go.RowKit
/-- the answer of a search -/
def FS (l : List Th) (line : List UInt8) (from_ a b : Nat) (ok : Bool) : Prop :=
  (ok = true ∧ from_ ≤ a ∧ a ≤ b ∧ b ≤ line.length ∧ M l line a b = true ∧ (∀ s, from_ ≤ s → s < a → ∀ b', b' ≤ line.length → M l line s b' = false) ∧ (∀ b', b' ≤ line.length → M l line a b' = true → b' ≤ b)) ∨
  (ok = false ∧ a = 0 ∧ b = 0 ∧ ∀ s, from_ ≤ s → ∀ b', b' ≤ line.length → M l line s b' = false)
theorem M_le {l : List Th} {line : List UInt8} {s b : Nat} (h : M l line s b = true) : s ≤ b := by
  rcases Nat.lt_or_ge b s with h1 | h1
  · unfold M at h; rw [V_high l line s b h1] at h; cases h
  · exact h1
theorem FS.one {l : List Th} {line : List UInt8} {f a b a' b' : Nat} {ok ok' : Bool} (h : FS l line f a b ok) (h' : FS l line f a' b' ok') : a = a' ∧ b = b' ∧ ok = ok' := by
  rcases h with ⟨e, h1, h2, h3, h4, h5, h6⟩ | ⟨e, h1, h2, h3⟩ <;> rcases h' with ⟨e', g1, g2, g3, g4, g5, g6⟩ | ⟨e', g1, g2, g3⟩
  · have ha : a = a' := by
      rcases Nat.lt_trichotomy a a' with h | h | h
      · have := g5 a h1 h b h3; rw [h4] at this; cases this
      · exact h
      · have := h5 a' g1 h b' g3; rw [g4] at this; cases this
    subst ha
    exact ⟨rfl, Nat.le_antisymm (g6 b h3 h4) (h6 b' g3 g4), by rw [e, e']⟩
  · have := g3 a h1 b h3; rw [h4] at this; cases this
  · have := h3 a' g1 b' g3; rw [g4] at this; cases this
  · exact ⟨by omega, by omega, by rw [e, e']⟩

/-- vectors of places that tell who was reached: the starts C -/
def Tells (n : Nat) (cap : Nat) (g : Nat → Nat) (C : Nat → Prop) (u : Nat → Nat → Bool) : Prop := ∀ T, T < N0 → T < cap → ∀ k, k ≤ n → (g k ≤ T ↔ ∃ s, (C s ∧ s ≤ T) ∧ u s k = true)
theorem Tells.pass {l : List Th} {line : List UInt8} {p cap : Nat} {g : Nat → Nat} {C : Nat → Prop} {u : Nat → Nat → Bool} (h : Tells l.length cap g C u) : Tells l.length cap (Pn l line p g) C (fun s => Pb l line p (u s)) := by
  intro T hT hc k hk
  rw [Pn_le]
  have h2 : ∀ v : Nat → Bool, (∀ k, k ≤ l.length → (v k = true ↔ ∃ s, (C s ∧ s ≤ T) ∧ u s k = true)) → ∀ k, k ≤ l.length → (Pb l line p v k = true ↔ ∃ s, (C s ∧ s ≤ T) ∧ Pb l line p (u s) k = true) := by
    intro v hv k
    induction k with
    | zero => intro hk; exact hv 0 hk
    | succ k ih =>
      intro hk
      have ih := ih (by omega)
      unfold Pb
      rw [Bool.or_eq_true, Bool.and_eq_true, hv (k + 1) hk, ih]
      constructor
      · rintro (⟨s, h1, h2⟩ | ⟨h0, s, h1, h2⟩)
        · exact ⟨s, h1, by rw [h2]; rfl⟩
        · exact ⟨s, h1, by rw [h0, h2]; simp⟩
      · rintro ⟨s, h1, h2⟩
        rw [Bool.or_eq_true, Bool.and_eq_true] at h2
        rcases h2 with h2 | ⟨h0, h2⟩
        · exact .inl ⟨s, h1, h2⟩
        · exact .inr ⟨h0, s, h1, h2⟩
  exact h2 _ (fun k hk => by rw [decide_eq_true_eq]; exact h T hT hc k hk) k hk
theorem Tells.read {l : List Th} {b cap : Nat} {g : Nat → Nat} {C : Nat → Prop} {u : Nat → Nat → Bool} (h : Tells l.length cap g C u) : Tells l.length cap (Rn l b g) C (fun s => Rb l b (u s)) := by
  intro T hT hc k hk
  rw [Rn_le hT]
  unfold Rb
  rw [Bool.or_eq_true, Bool.and_eq_true, Bool.and_eq_true, Bool.and_eq_true, Bool.and_eq_true]
  have e1 : decide (g (k - 1) ≤ T) = true ↔ ∃ s, (C s ∧ s ≤ T) ∧ u s (k - 1) = true := by rw [decide_eq_true_eq]; exact h T hT hc _ (by omega)
  have e2 : decide (g k ≤ T) = true ↔ ∃ s, (C s ∧ s ≤ T) ∧ u s k = true := by rw [decide_eq_true_eq]; exact h T hT hc _ hk
  rw [e1, e2]
  constructor
  · rintro (⟨h0, h3, s, h1, h2⟩ | ⟨h0, h3, s, h1, h2⟩)
    · exact ⟨s, h1, by dsimp only; rw [h0, h2, h3]; simp⟩
    · exact ⟨s, h1, by dsimp only; rw [h0, h2, h3]; simp⟩
  · rintro ⟨s, h1, h2⟩
    rw [Bool.or_eq_true, Bool.and_eq_true, Bool.and_eq_true, Bool.and_eq_true, Bool.and_eq_true] at h2
    rcases h2 with ⟨h0, h3, h2⟩ | ⟨h0, h3, h2⟩
    · exact .inl ⟨h0, h3, s, h1, h2⟩
    · exact .inr ⟨h0, h3, s, h1, h2⟩

/-- what was reached ahead of the byte p, before free things are passed -/
def Vb (l : List Th) (line : List UInt8) (p s : Nat) (k : Nat) : Bool := if s = p then decide (k = 0) else (decide (0 < p) && Rb l (bn line (p - 1)) (V l line s (p - 1)) k)
theorem V_pass (l : List Th) (line : List UInt8) (p s : Nat) (h : s ≤ p) (k : Nat) : V l line s p k = Pb l line p (Vb l line p s) k := by
  cases p with
  | zero =>
    have : s = 0 := by omega
    subst this
    unfold V; rw [if_pos rfl]
    congr 1
  | succ p =>
    unfold V
    by_cases hs : s = p + 1
    · rw [if_pos hs]; congr 1; funext k; unfold Vb; rw [if_pos hs]
    · rw [if_neg hs]; congr 1; funext k; unfold Vb; rw [if_neg hs]; simp
/-- the state of a search ahead of the place p -/
structure Pre (l : List Th) (line : List UInt8) (from_ p : Nat) (g : Nat → Nat) (a b : Nat) (ok : Bool) (cap lim : Nat) : Prop where
  tells : Tells l.length cap g (fun s => from_ ≤ s ∧ s < p ∧ (ok = true → s ≤ lim)) (fun s => Vb l line p s)
  low : from_ ≤ p
  off : ok = false → cap = N0 ∧ a = 0 ∧ b = 0 ∧ ∀ s, from_ ≤ s → ∀ b', b' < p → M l line s b' = false
  on : ok = true → a < cap ∧ a ≤ lim ∧ lim < p ∧ from_ ≤ a ∧ a ≤ b ∧ b < p ∧ M l line a b = true ∧ (∀ s, from_ ≤ s → s < a → ∀ b', b' < p → M l line s b' = false) ∧ (∀ b', b' < p → M l line a b' = true → b' ≤ b)
def N0s : Nat → Nat := fun _ => N0
theorem Pre.start (l : List Th) (line : List UInt8) (f : Nat) : Pre l line f f N0s 0 0 false N0 0 := by
  refine ⟨fun T hT _ k _ => ⟨fun h => by unfold N0s at h; omega, fun ⟨s, ⟨⟨h1, h2, _⟩, _⟩, _⟩ => by omega⟩, Nat.le_refl _, fun _ => ⟨rfl, rfl, rfl, fun s hs b' hb => ?_⟩, fun h => by cases h⟩
  unfold M; exact V_high l line s b' (by omega) _
/-- a start is let in -/
def ins (ok : Bool) (g : Nat → Nat) (p : Nat) : Nat → Nat := if ok then g else fun k => if k = 0 then min (g 0) p else g k
theorem Pre.passed {l : List Th} {line : List UInt8} {f p a b cap lim : Nat} {g : Nat → Nat} {ok : Bool} (h : Pre l line f p g a b ok cap lim) :
    Tells l.length cap (Pn l line p (ins ok g p)) (fun s => f ≤ s ∧ s ≤ p ∧ (ok = true → s ≤ lim)) (fun s => V l line s p) := by
  have hl := h.low
  have h0 : Tells l.length cap (ins ok g p) (fun s => f ≤ s ∧ s ≤ p ∧ (ok = true → s ≤ lim)) (fun s => Vb l line p s) := by
    intro T hT hc k hk
    have ht := h.tells T hT hc k hk
    unfold ins
    cases ok with
    | true =>
      have hlim := (h.on rfl).2.2.1
      rw [if_pos rfl, ht]
      exact ⟨fun ⟨s, ⟨⟨h1, h2, h3⟩, h4⟩, h5⟩ => ⟨s, ⟨⟨h1, by omega, h3⟩, h4⟩, h5⟩, fun ⟨s, ⟨⟨h1, h2, h3⟩, h4⟩, h5⟩ => ⟨s, ⟨⟨h1, by have := h3 rfl; omega, h3⟩, h4⟩, h5⟩⟩
    | false =>
      rw [if_neg (by decide)]
      by_cases hk0 : k = 0
      · subst hk0
        dsimp only
        rw [if_pos rfl]
        constructor
        · intro hm
          by_cases hg : g 0 ≤ T
          · obtain ⟨s, ⟨⟨h1, h2, h3⟩, h4⟩, h5⟩ := ht.1 hg
            exact ⟨s, ⟨⟨h1, by omega, h3⟩, h4⟩, h5⟩
          · exact ⟨p, ⟨⟨hl, Nat.le_refl _, fun e => by cases e⟩, by omega⟩, by unfold Vb; rw [if_pos rfl]; rfl⟩
        · rintro ⟨s, ⟨⟨h1, h2, h3⟩, h4⟩, h5⟩
          by_cases hs : s = p
          · omega
          · have := ht.2 ⟨s, ⟨⟨h1, by omega, fun e => by cases e⟩, h4⟩, h5⟩
            omega
      · dsimp only
        rw [if_neg hk0, ht]
        refine ⟨fun ⟨s, ⟨⟨h1, h2, h3⟩, h4⟩, h5⟩ => ⟨s, ⟨⟨h1, by omega, h3⟩, h4⟩, h5⟩, fun ⟨s, ⟨⟨h1, h2, h3⟩, h4⟩, h5⟩ => ⟨s, ⟨⟨h1, ?_, h3⟩, h4⟩, h5⟩⟩
        by_cases hs : s = p
        · subst hs; unfold Vb at h5; rw [if_pos rfl] at h5; simp at h5; omega
        · omega
  intro T hT hc k hk
  rw [h0.pass T hT hc k hk]
  constructor
  · rintro ⟨s, h1, h2⟩; exact ⟨s, h1, by dsimp only; rw [V_pass l line p s h1.1.2.1]; exact h2⟩
  · rintro ⟨s, h1, h2⟩; exact ⟨s, h1, by dsimp only at h2; rw [V_pass l line p s h1.1.2.1] at h2; exact h2⟩
/-- how a round turns the answer -/
def Turns (p w0 a b : Nat) (ok : Bool) (a' b' : Nat) (ok' : Bool) : Prop := (w0 ≠ N0 ∧ (ok = false ∨ w0 ≤ a) ∧ a' = w0 ∧ b' = p ∧ ok' = true) ∨ (¬ (w0 ≠ N0 ∧ (ok = false ∨ w0 ≤ a)) ∧ a' = a ∧ b' = b ∧ ok' = ok)
theorem Pre.step {l : List Th} {line : List UInt8} {f p a b cap lim a' b' cap' : Nat} {g g1 g2 : Nat → Nat} {ok ok' : Bool} (h : Pre l line f p g a b ok cap lim)
    (ht : Tells l.length cap g1 (fun s => f ≤ s ∧ s ≤ p ∧ (ok = true → s ≤ lim)) (fun s => V l line s p)) (hN : p < N0) (hle : g1 l.length ≤ N0)
    (hres : Turns p (g1 l.length) a b ok a' b' ok') (hc0 : ok' = false → cap' = N0) (hc1 : ok' = true → a' < cap' ∧ cap' ≤ cap)
    (ht2 : Tells l.length cap' g2 (fun s => f ≤ s ∧ s ≤ p ∧ (ok = true → s ≤ lim)) (fun s => Rb l (bn line p) (V l line s p))) :
    Pre l line f (p + 1) g2 a' b' ok' cap' (if ok then lim else p) := by
  have hlow := h.low
  have hC : ∀ s, (f ≤ s ∧ s < p + 1 ∧ (ok' = true → s ≤ (if ok then lim else p))) ↔ (f ≤ s ∧ s ≤ p ∧ (ok = true → s ≤ lim)) := by
    intro s
    cases ok with
    | true =>
      have : ok' = true := by rcases hres with ⟨_, _, _, _, e⟩ | ⟨_, _, _, e⟩ <;> exact e
      rw [this]
      constructor
      · rintro ⟨h1, h2, h3⟩; exact ⟨h1, by omega, h3⟩
      · rintro ⟨h1, h2, h3⟩; exact ⟨h1, by omega, h3⟩
    | false =>
      constructor
      · rintro ⟨h1, h2, h3⟩; exact ⟨h1, by omega, fun e => by cases e⟩
      · rintro ⟨h1, h2, h3⟩; exact ⟨h1, by omega, fun _ => h2⟩
  have hT2 : Tells l.length cap' g2 (fun s => f ≤ s ∧ s < p + 1 ∧ (ok' = true → s ≤ (if ok then lim else p))) (fun s => Vb l line (p + 1) s) := by
    intro T hT hc k hk
    rw [ht2 T hT hc k hk]
    constructor
    · rintro ⟨s, ⟨h1, h2⟩, h3⟩
      refine ⟨s, ⟨(hC s).2 h1, h2⟩, ?_⟩
      dsimp only; unfold Vb; rw [if_neg (by have := h1.2.1; omega)]; simpa using h3
    · rintro ⟨s, ⟨h1, h2⟩, h3⟩
      refine ⟨s, ⟨(hC s).1 h1, h2⟩, ?_⟩
      dsimp only at h3; unfold Vb at h3; rw [if_neg (by have := h1.2.1; omega)] at h3; simpa using h3
  have hM : ∀ s, f ≤ s → s ≤ p → (ok = true → s ≤ lim) → s < cap → M l line s p = true → g1 l.length ≤ s := fun s h1 h2 h3 h4 h5 => (ht s (by omega) h4 _ (Nat.le_refl _)).2 ⟨s, ⟨⟨h1, h2, h3⟩, Nat.le_refl _⟩, h5⟩
  rcases hres with ⟨r1, r2, rfl, rfl, rfl⟩ | ⟨r1, rfl, rfl, rfl⟩
  · -- a hit
    have hc := hc1 rfl
    have hlt : g1 l.length < N0 := by omega
    have hcap : g1 l.length < cap := by omega
    obtain ⟨s, ⟨⟨h1, h2, h3⟩, h4⟩, h5⟩ := (ht _ hlt hcap _ (Nat.le_refl _)).1 (Nat.le_refl _)
    have hs : s = g1 l.length := Nat.le_antisymm h4 (hM s h1 h2 h3 (by omega) h5)
    rw [← hs]
    rw [← hs] at hc r2 hcap
    have hbefore : ∀ s', f ≤ s' → s' < s → ∀ b'', b'' < b' + 1 → M l line s' b'' = false := by
      intro s' h6 h7 b'' h8
      cases hm : M l line s' b'' with
      | false => rfl
      | true =>
        exfalso
        by_cases hb : b'' = b'
        · subst hb
          have := hM s' h6 (by omega) (fun e => by have := h3 e; omega) (by omega) hm
          omega
        · cases ok with
          | false => have := (h.off rfl).2.2.2 s' h6 b'' (by omega); rw [hm] at this; cases this
          | true =>
            have hon := h.on rfl
            have hsa : s ≤ a := by rcases r2 with e | e; cases e; exact e
            have := hon.2.2.2.2.2.2.2.1 s' h6 (by omega) b'' (by omega); rw [hm] at this; cases this
    refine ⟨hT2, by omega, fun e => (by cases e), fun _ => ⟨hc.1, ?_, ?_, h1, h2, by omega, h5, hbefore, fun b'' _ _ => by omega⟩⟩
    · split
      · rename_i e; exact h3 e
      · exact h2
    · cases ok with
      | true => have := (h.on rfl).2.2.1; simp; omega
      | false => simp
  · -- none
    refine ⟨hT2, by omega, fun e => ?_, fun e => ?_⟩
    · subst e
      have ho := h.off rfl
      refine ⟨hc0 rfl, ho.2.1, ho.2.2.1, fun s h1 b'' h2 => ?_⟩
      by_cases hb : b'' = p
      · subst hb
        cases hm : M l line s b'' with
        | false => rfl
        | true =>
          exfalso
          have hs := M_le hm
          have := hM s h1 hs (fun e => by cases e) (by omega) hm
          exact r1 ⟨by omega, .inl rfl⟩
      · exact ho.2.2.2 s h1 b'' (by omega)
    · subst e
      have ho := h.on rfl
      have hno : ∀ s, f ≤ s → s ≤ a' → M l line s p = false := by
        intro s h1 h2
        cases hm : M l line s p with
        | false => rfl
        | true =>
          exfalso
          have hs := M_le hm
          have := hM s h1 hs (fun _ => by omega) (by omega) hm
          exact r1 ⟨by omega, .inr (by omega)⟩
      refine ⟨(hc1 rfl).1, by simp; omega, by simp; omega, ho.2.2.2.1, ho.2.2.2.2.1, by omega, ho.2.2.2.2.2.2.1, fun s h1 h2 b'' h3 => ?_, fun b'' h3 h4 => ?_⟩
      · by_cases hb : b'' = p
        · subst hb; exact hno s h1 (by omega)
        · exact ho.2.2.2.2.2.2.2.1 s h1 h2 b'' (by omega)
      · by_cases hb : b'' = p
        · subst hb; rw [hno a' ho.2.2.2.1 (Nat.le_refl _)] at h4; cases h4
        · exact ho.2.2.2.2.2.2.2.2 b'' (by omega) h4
theorem Pre.done {l : List Th} {line : List UInt8} {f a b cap lim : Nat} {g : Nat → Nat} {ok : Bool} (h : Pre l line f (line.length + 1) g a b ok cap lim) : FS l line f a b ok := by
  cases ok with
  | true =>
    obtain ⟨_, _, _, h1, h2, h3, h4, h5, h6⟩ := h.on rfl
    exact .inl ⟨rfl, h1, h2, by omega, h4, fun s a1 a2 b' a3 => h5 s a1 a2 b' (by omega), fun b' a1 a2 => h6 b' (by omega) a2⟩
  | false =>
    obtain ⟨_, h1, h2, h3⟩ := h.off rfl
    exact .inr ⟨rfl, h1, h2, fun s a1 b' a2 => h3 s a1 b' (by omega)⟩
/-- nothing better may come -/
theorem Pre.dead {l : List Th} {line : List UInt8} {f p a b cap lim cap1 : Nat} {g g1 : Nat → Nat} {C : Nat → Prop} (h : Pre l line f (p + 1) g a b true cap lim) (hp : p ≤ line.length)
    (ht : Tells l.length cap1 g1 C (fun s => V l line s p)) (hC : ∀ s, f ≤ s → s ≤ a → C s) (hcap : a < cap1) (ha : a < N0) (hd : ∀ k, k < l.length → a < g1 k) : FS l line f a b true := by
  obtain ⟨_, _, _, h1, h2, h3, h4, h5, h6⟩ := h.on rfl
  have hv : ∀ s, f ≤ s → s ≤ a → ∀ k, k < l.length → V l line s p k = false := by
    intro s a1 a2 k hk
    cases hm : V l line s p k with
    | false => rfl
    | true =>
      have := (ht s (by omega) (by omega) k (by omega)).2 ⟨s, ⟨hC s a1 a2, Nat.le_refl _⟩, hm⟩
      have := hd k hk
      omega
  have hw : ∀ s, f ≤ s → s ≤ a → ∀ d k, k ≤ l.length → V l line s (p + 1 + d) k = false := by
    intro s a1 a2 d
    induction d with
    | zero =>
      intro k hk
      show V l line s (p + 1) k = false
      unfold V
      rw [if_neg (by omega)]
      rw [Pb_to (n := l.length) (u := fun _ => false) (fun k hk => Rb_false l _ (hv s a1 a2) hk) k hk]
      exact Pb_false l line _ (fun _ => rfl) k
    | succ d ih =>
      intro k hk
      show V l line s (p + 1 + d + 1) k = false
      unfold V
      rw [if_neg (by omega)]
      rw [Pb_to (n := l.length) (u := fun _ => false) (fun k hk => Rb_false l _ (fun k hk => ih k (by omega)) hk) k hk]
      exact Pb_false l line _ (fun _ => rfl) k
  have hfar : ∀ s, f ≤ s → s ≤ a → ∀ b', p < b' → M l line s b' = false := by
    intro s a1 a2 b' hb
    have := hw s a1 a2 (b' - (p + 1)) l.length (Nat.le_refl _)
    rw [show p + 1 + (b' - (p + 1)) = b' by omega] at this
    exact this
  refine .inl ⟨rfl, h1, h2, by omega, h4, fun s a1 a2 b' a3 => ?_, fun b' a1 a2 => ?_⟩
  · by_cases hb : b' ≤ p
    · exact h5 s a1 a2 b' (by omega)
    · exact hfar s a1 (by omega) b' (by omega)
  · by_cases hb : b' ≤ p
    · exact h6 b' (by omega) a2
    · rw [hfar a h1 (Nat.le_refl _) b' (by omega)] at a2; cases a2
end Go.Proofs.Ytaakgoojcogbcaa
