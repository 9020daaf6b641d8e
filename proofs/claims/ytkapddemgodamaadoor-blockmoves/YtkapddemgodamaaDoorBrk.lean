/- Brackets, as plain lists: a stack of those that are awaited, a walk to the right or to the left, there and back, and how many of each sort lie between; no program. -/
import Derived.Test.YtkapddemgodamaaDoorPure
namespace Go.Proofs.YtkapddemgodamaaDoor

/-- the partner, whether the bracket opens, whether it is one -/
def po (b : Int) : Int := if b = 40 then 41 else if b = 41 then 40 else if b = 91 then 93 else if b = 93 then 91 else if b = 123 then 125 else if b = 125 then 123 else 0
def pn (b : Int) : Bool := decide (b = 40 ∨ b = 91 ∨ b = 123)
def pk (b : Int) : Bool := decide (b = 40 ∨ b = 41 ∨ b = 91 ∨ b = 93 ∨ b = 123 ∨ b = 125)
theorem pk_cases {b : Int} (h : pk b = true) : b = 40 ∨ b = 41 ∨ b = 91 ∨ b = 93 ∨ b = 123 ∨ b = 125 := by simpa [pk] using h
theorem po_po {b : Int} (h : pk b = true) : po (po b) = b := by rcases pk_cases h with rfl | rfl | rfl | rfl | rfl | rfl <;> decide
theorem pk_po {b : Int} (h : pk b = true) : pk (po b) = true := by rcases pk_cases h with rfl | rfl | rfl | rfl | rfl | rfl <;> decide
theorem pn_po {b : Int} (h : pk b = true) : pn (po b) = !pn b := by rcases pk_cases h with rfl | rfl | rfl | rfl | rfl | rfl <;> decide
theorem pn_pk {b : Int} (h : pn b = true) : pk b = true := by simp [pn, pk] at *; omega
/-- one step of the stack, at a byte -/
def sb (fw : Bool) (S : List Int) (b : Int) : Option (List Int) :=
  if pk b = false then some S else if pn b = fw then some (po b :: S) else match S with
    | [] => none
    | x :: S' => if b = x then some S' else none
theorem sb_push {fw : Bool} {S : List Int} {b : Int} (h : pk b = true) (hf : pn b = fw) : sb fw S b = some (po b :: S) := by simp [sb, h, hf]
theorem sb_skip {fw : Bool} {S : List Int} {b : Int} (h : pk b = false) : sb fw S b = some S := by simp [sb, h]
theorem sb_pop {fw : Bool} {S : List Int} {b : Int} (h : pk b = true) (hf : pn b = !fw) : sb fw (b :: S) b = some S := by simp [sb, h, hf]
theorem sb_cases {fw : Bool} {S S' : List Int} {b : Int} (h : sb fw S b = some S') : (pk b = false ∧ S' = S) ∨ (pk b = true ∧ pn b = fw ∧ S' = po b :: S) ∨ (pk b = true ∧ pn b = !fw ∧ S = b :: S') := by
  unfold sb at h
  split at h
  · next hk => exact .inl ⟨hk, by simpa using h.symm⟩
  · next hk =>
    have hk' : pk b = true := by simpa using hk
    split at h
    · next hf => exact .inr (.inl ⟨hk', hf, by simpa using h.symm⟩)
    · next hf =>
      have hf' : pn b = !fw := by cases hp : pn b <;> cases fw <;> simp_all
      split at h
      · cases h
      · split at h
        · next hx => exact .inr (.inr ⟨hk', hf', by subst hx; simpa using h⟩)
        · cases h
/-- all that is awaited are brackets -/
def bks (S : List Int) : Prop := ∀ x ∈ S, pk x = true
theorem sb_bks {fw : Bool} {S S' : List Int} {b : Int} (h : sb fw S b = some S') (hs : bks S) : bks S' := by
  rcases sb_cases h with ⟨_, rfl⟩ | ⟨hk, _, rfl⟩ | ⟨hk, _, rfl⟩
  · exact hs
  · intro x hx; rcases List.mem_cons.1 hx with rfl | hx
    · exact pk_po hk
    · exact hs x hx
  · exact fun x hx => hs x (List.mem_cons_of_mem _ hx)
/-- a step the other way takes the step back -/
theorem sb_back {fw : Bool} {S S' : List Int} {b : Int} (h : sb fw S b = some S') : sb (!fw) (S'.map po) b = some (S.map po) := by
  rcases sb_cases h with ⟨hk, rfl⟩ | ⟨hk, hf, rfl⟩ | ⟨hk, hf, rfl⟩
  · exact sb_skip hk
  · simp only [List.map_cons, po_po hk]; exact sb_pop hk (by simp [hf])
  · simp only [List.map_cons]; exact sb_push hk hf
theorem map_po_po {S : List Int} (h : bks S) : (S.map po).map po = S := by
  induction S with
  | nil => rfl
  | cons x S ih => simp only [List.map_cons, po_po (h x (List.mem_cons_self ..)), ih (fun y hy => h y (List.mem_cons_of_mem _ hy))]

/-- the byte at a place -/
def bi (l : List UInt8) (i : Nat) : Int := ((at8 l i).toNat : Int)
/-- the walk to the right: at most k bytes, from i on -/
def wkr (l : List UInt8) : Nat → Nat → List Int → Option Nat
  | 0, _, _ => none
  | k + 1, i, S => match sb true S (bi l i) with
    | none => none
    | some S' => if S' = [] then some i else wkr l k (i + 1) S'
/-- the walk to the left: from i - 1 down to 0 -/
def wkl (l : List UInt8) : Nat → List Int → Option Nat
  | 0, _ => none
  | i + 1, S => match sb false S (bi l i) with
    | none => none
    | some S' => if S' = [] then some i else wkl l i S'
/-- where % leads from the bracket at q -/
def pt (l : List UInt8) (q : Nat) : Option Nat := if pn (bi l q) = true then wkr l (l.length - q) q [] else wkl l (q + 1) []
/-- a walk to the right, as the list of its stacks: F i is the stack ahead of i -/
def Rt (l : List UInt8) (i p : Nat) (S : List Int) (F : Nat → List Int) : Prop :=
  i ≤ p ∧ F i = S ∧ F (p + 1) = [] ∧ (∀ j, i ≤ j → j ≤ p → sb true (F j) (bi l j) = some (F (j + 1))) ∧ (∀ j, i < j → j ≤ p → F j ≠ [])
theorem wkr_rt (l : List UInt8) : ∀ (k i : Nat) (S : List Int) (p : Nat), wkr l k i S = some p → p < i + k ∧ ∃ F, Rt l i p S F
  | 0, _, _, _, h => by simp [wkr] at h
  | k + 1, i, S, p, h => by
    unfold wkr at h
    split at h
    · cases h
    · next S' hs =>
      split at h
      · next hn =>
        cases h
        subst hn
        refine ⟨by omega, fun j => if j = i then S else [], Nat.le_refl _, by simp, by simp, fun j h1 h2 => ?_, fun j h1 h2 => by omega⟩
        obtain rfl : j = i := by omega
        simpa using hs
      · next hn =>
        obtain ⟨hp, F, hip, h0, h1, h2, h3⟩ := wkr_rt l k (i + 1) S' p h
        refine ⟨by omega, fun j => if j = i then S else F j, by omega, by simp, by simp only [show p + 1 ≠ i by omega, if_false]; exact h1, fun j hj hj2 => ?_, fun j hj hj2 => ?_⟩
        · by_cases hji : j = i
          · subst hji; simp only [if_true, show j + 1 ≠ j by omega, if_false, h0]; exact hs
          · simp only [hji, if_false, show j + 1 ≠ i by omega]; exact h2 j (by omega) hj2
        · simp only [show j ≠ i by omega, if_false]
          by_cases hji : j = i + 1
          · subst hji; rw [h0]; exact hn
          · exact h3 j (by omega) hj2
theorem rt_wr (l : List UInt8) : ∀ (k i : Nat) (S : List Int) (p : Nat) (F : Nat → List Int), p < i + k → Rt l i p S F → wkr l k i S = some p
  | 0, i, S, p, F, hp, h => by have := h.1; omega
  | k + 1, i, S, p, F, hp, ⟨hip, h0, h1, h2, h3⟩ => by
    have hs := h2 i (Nat.le_refl _) hip
    rw [h0] at hs
    unfold wkr
    rw [hs]
    by_cases hpi : p = i
    · subst hpi; simp [h1]
    · simp only [h3 (i + 1) (by omega) (by omega), if_false]
      exact rt_wr l k (i + 1) _ p F (by omega) ⟨by omega, rfl, h1, fun j hj hj2 => h2 j (by omega) hj2, fun j hj hj2 => h3 j (by omega) hj2⟩
/-- a walk to the left: F (j + 1) is the stack ahead of j -/
def Lt (l : List UInt8) (i p : Nat) (S : List Int) (F : Nat → List Int) : Prop :=
  p < i ∧ F i = S ∧ F p = [] ∧ (∀ j, p ≤ j → j < i → sb false (F (j + 1)) (bi l j) = some (F j)) ∧ (∀ j, p < j → j < i → F j ≠ [])
theorem wl_lt (l : List UInt8) : ∀ (i : Nat) (S : List Int) (p : Nat), wkl l i S = some p → ∃ F, Lt l i p S F
  | 0, _, _, h => by simp [wkl] at h
  | i + 1, S, p, h => by
    unfold wkl at h
    split at h
    · cases h
    · next S' hs =>
      split at h
      · next hn =>
        cases h
        subst hn
        refine ⟨fun j => if j = i + 1 then S else [], by omega, by simp, by simp, fun j h1 h2 => ?_, fun j h1 h2 => by omega⟩
        obtain rfl : j = i := by omega
        simpa using hs
      · next hn =>
        obtain ⟨F, hip, h0, h1, h2, h3⟩ := wl_lt l i S' p h
        refine ⟨fun j => if j = i + 1 then S else F j, by omega, by simp, by simp only [show p ≠ i + 1 by omega, if_false]; exact h1, fun j hj hj2 => ?_, fun j hj hj2 => ?_⟩
        · by_cases hji : j = i
          · subst hji; simp only [if_true, show j ≠ j + 1 by omega, if_false, h0]; exact hs
          · simp only [show j ≠ i + 1 by omega, if_false, show j + 1 ≠ i + 1 by omega]; exact h2 j hj (by omega)
        · simp only [show j ≠ i + 1 by omega, if_false]
          by_cases hji : j = i
          · subst hji; rw [h0]; exact hn
          · exact h3 j hj (by omega)
theorem lt_wl (l : List UInt8) : ∀ (i : Nat) (S : List Int) (p : Nat) (F : Nat → List Int), Lt l i p S F → wkl l i S = some p
  | 0, S, p, F, h => by have := h.1; omega
  | i + 1, S, p, F, ⟨hip, h0, h1, h2, h3⟩ => by
    have hs := h2 i (by omega) (by omega)
    rw [h0] at hs
    unfold wkl
    rw [hs]
    by_cases hpi : p = i
    · subst hpi; simp [h1]
    · simp only [h3 i (by omega) (by omega), if_false]
      exact lt_wl l i _ p F ⟨by omega, rfl, h1, fun j hj hj2 => h2 j hj (by omega), fun j hj hj2 => h3 j hj (by omega)⟩
theorem rt_bks {l : List UInt8} {i p : Nat} {S : List Int} {F : Nat → List Int} (h : Rt l i p S F) (hs : bks S) : ∀ d, i + d ≤ p + 1 → bks (F (i + d))
  | 0, _ => by rw [Nat.add_zero, h.2.1]; exact hs
  | d + 1, hd => sb_bks (h.2.2.2.1 (i + d) (by omega) (by omega)) (rt_bks h hs d (by omega))
theorem lt_bks {l : List UInt8} {i p : Nat} {S : List Int} {F : Nat → List Int} (h : Lt l i p S F) (hs : bks S) : ∀ d, p + d ≤ i → bks (F (i - d))
  | 0, _ => by rw [Nat.sub_zero, h.2.1]; exact hs
  | d + 1, hd => by
    have := sb_bks (h.2.2.2.1 (i - (d + 1)) (by omega) (by omega)) (by rw [show i - (d + 1) + 1 = i - d by omega]; exact lt_bks h hs d (by omega))
    exact this
/-- the way there is the way back -/
theorem rt_lt {l : List UInt8} {i p : Nat} {F : Nat → List Int} (h : Rt l i p [] F) : Lt l (p + 1) i [] (fun j => (F j).map po) := by
  obtain ⟨hip, h0, h1, h2, h3⟩ := h
  refine ⟨by omega, by simp [h1], by simp [h0], fun j hj hj2 => sb_back (h2 j hj (by omega)), fun j hj hj2 => by simp [h3 j hj (by omega)]⟩
theorem lt_rt {l : List UInt8} {i p : Nat} {F : Nat → List Int} (h : Lt l (i + 1) p [] F) : Rt l p i [] (fun j => (F j).map po) := by
  obtain ⟨hip, h0, h1, h2, h3⟩ := h
  refine ⟨by omega, by simp [h1], by simp [h0], fun j hj hj2 => sb_back (h2 j hj (by omega)), fun j hj hj2 => by simp [h3 j hj (by omega)]⟩
/-- the bracket that is awaited first lies at the bottom of the stack -/
theorem sb_bottom {fw : Bool} {X S' : List Int} {b x : Int} (h : sb fw (X ++ [x]) b = some S') (hn : S' ≠ []) : ∃ Y, S' = Y ++ [x] := by
  rcases sb_cases h with ⟨_, rfl⟩ | ⟨hk, _, rfl⟩ | ⟨hk, _, he⟩
  · exact ⟨X, rfl⟩
  · exact ⟨po b :: X, by simp⟩
  · cases X with
    | nil => simp at he; exact absurd he.2.symm (fun e => hn (by simpa using e.symm))
    | cons y Y => simp at he; exact ⟨Y, he.2.symm⟩
theorem rt_ends {l : List UInt8} {q p : Nat} {F : Nat → List Int} (h : Rt l q p [] F) (hq : pk (bi l q) = true) (ho : pn (bi l q) = true) : q < p ∧ bi l p = po (bi l q) := by
  obtain ⟨hqp, h0, h1, h2, h3⟩ := h
  have hs := h2 q (Nat.le_refl _) hqp
  rw [h0, sb_push hq ho] at hs
  have hlt : q < p := by
    rcases Nat.lt_or_ge q p with h | h
    · exact h
    · obtain rfl : p = q := by omega
      rw [h1] at hs; simp at hs
  have hbot : ∀ d, q + 1 + d ≤ p → ∃ Y, F (q + 1 + d) = Y ++ [po (bi l q)] := by
    intro d; induction d with
    | zero => intro _; exact ⟨[], by simpa using hs.symm⟩
    | succ d ih =>
      intro hd
      obtain ⟨Y, hY⟩ := ih (by omega)
      have := h2 (q + 1 + d) (by omega) (by omega)
      rw [hY] at this
      exact sb_bottom this (h3 _ (by omega) (by omega))
  obtain ⟨Y, hY⟩ := hbot (p - (q + 1)) (by omega)
  rw [show q + 1 + (p - (q + 1)) = p by omega] at hY
  have hl := h2 p hqp (Nat.le_refl _)
  rw [h1, hY] at hl
  refine ⟨hlt, ?_⟩
  rcases sb_cases hl with ⟨_, he⟩ | ⟨hk, _, he⟩ | ⟨hk, _, he⟩
  · simp at he
  · simp at he
  · cases Y with
    | nil => simpa using he.symm
    | cons y Y => simp at he
/-- from a bracket to its partner, and back -/
theorem pt_back {l : List UInt8} {q p : Nat} (hq : q < l.length) (hk : pk (bi l q) = true) (h : pt l q = some p) :
    p < l.length ∧ pk (bi l p) = true ∧ bi l p = po (bi l q) ∧ pt l p = some q ∧ (pn (bi l q) = true → q < p) ∧ (pn (bi l q) = false → p < q) ∧ ∃ F, Rt l (min q p) (max q p) [] F := by
  unfold pt at h
  split at h
  · next ho =>
    obtain ⟨hp, F, hF⟩ := wkr_rt l _ _ _ _ h
    obtain ⟨hlt, hb⟩ := rt_ends hF hk ho
    have hpl : p < l.length := by omega
    have hpn : pn (bi l p) = false := by rw [hb, pn_po hk, ho]; rfl
    refine ⟨hpl, by rw [hb]; exact pk_po hk, hb, ?_, fun _ => hlt, (fun e => by rw [ho] at e; cases e), F, ?_⟩
    · unfold pt; rw [hpn]; simp only [Bool.false_eq_true, if_false]; exact lt_wl l _ _ _ _ (rt_lt hF)
    · rw [Nat.min_eq_left (by omega), Nat.max_eq_right (by omega)]; exact hF
  · next ho =>
    have ho' : pn (bi l q) = false := by simpa using ho
    obtain ⟨F, hF⟩ := wl_lt l _ _ _ h
    have hR := lt_rt hF
    have hpq : p ≤ q := hR.1
    -- the end to the left opens: seen from there
    have hend : p < q ∧ bi l p = po (bi l q) ∧ pn (bi l p) = true ∧ pk (bi l p) = true := by
      obtain ⟨_, h0, h1, h2, h3⟩ := hF
      have hs := h2 q (by omega) (by omega)
      rw [h0, sb_push hk ho'] at hs
      have hlt : p < q := by
        rcases Nat.lt_or_ge p q with h | h
        · exact h
        · obtain rfl : p = q := by omega
          rw [h1] at hs; simp at hs
      have hs0 := h2 p (Nat.le_refl _) (by omega)
      rw [h1] at hs0
      have hbot : ∀ d, d + 1 + p ≤ q → ∃ Y, F (q - d) = Y ++ [po (bi l q)] := by
        intro d; induction d with
        | zero => intro _; exact ⟨[], by simpa using hs.symm⟩
        | succ d ih =>
          intro hd
          obtain ⟨Y, hY⟩ := ih (by omega)
          have := h2 (q - (d + 1)) (by omega) (by omega)
          rw [show q - (d + 1) + 1 = q - d by omega, hY] at this
          exact sb_bottom this (h3 _ (by omega) (by omega))
      obtain ⟨Y, hY⟩ := hbot (q - (p + 1)) (by omega)
      rw [show q - (q - (p + 1)) = p + 1 by omega] at hY
      rw [hY] at hs0
      rcases sb_cases hs0 with ⟨_, he⟩ | ⟨hk', _, he⟩ | ⟨hk', hn', he⟩
      · simp at he
      · simp at he
      · cases Y with
        | nil => exact ⟨hlt, by simpa using he.symm, hn', hk'⟩
        | cons y Y => simp at he
    obtain ⟨hlt, hb, hpn, hpk⟩ := hend
    refine ⟨by omega, hpk, hb, ?_, (fun e => by rw [ho'] at e; cases e), fun _ => hlt, fun j => (F j).map po, ?_⟩
    · unfold pt; rw [if_pos hpn]; exact rt_wr l _ _ _ _ _ (by omega) hR
    · rw [Nat.min_eq_right (by omega), Nat.max_eq_left (by omega)]; exact hR

/-- how many of a sort stand open, from a to b -/
def oc (l : List UInt8) (x : Int) (a : Nat) : Nat → Int
  | 0 => 0
  | d + 1 => oc l x a d + (if pk (bi l (a + d)) = true ∧ pn (bi l (a + d)) = true ∧ bi l (a + d) = x then 1 else 0) - (if pk (bi l (a + d)) = true ∧ pn (bi l (a + d)) = false ∧ po (bi l (a + d)) = x then 1 else 0)
theorem oc_stack {l : List UInt8} {q p : Nat} {F : Nat → List Int} (h : Rt l q p [] F) (x : Int) : ∀ d, q + d ≤ p + 1 → oc l x q d = if pn x = true then ((F (q + d)).count (po x) : Int) else 0
  | 0, _ => by simp [oc, h.2.1]
  | d + 1, hd => by
    have ih := oc_stack h x d (by omega)
    have hs := h.2.2.2.1 (q + d) (by omega) (by omega)
    rw [show q + (d + 1) = q + d + 1 by omega]
    unfold oc
    rw [ih]
    generalize hb : bi l (q + d) = b at *
    rcases sb_cases hs with ⟨hk, he⟩ | ⟨hk, hn, he⟩ | ⟨hk, hn, he⟩
    · rw [he]; simp [hk]
    · rw [he]
      simp only [hk, hn, true_and, Bool.true_eq_false, false_and, if_false, Int.sub_zero]
      by_cases hx : pn x = true
      · simp only [hx, if_true]
        by_cases hbx : b = x
        · subst hbx; simp
        · have : po b ≠ po x := fun e => hbx (by rw [← po_po hk, e, po_po (pn_pk hx)])
          simp [hbx, this]
      · have hbx : b ≠ x := fun e => hx (e ▸ hn)
        simp [hx, hbx]
    · rw [he]
      have hn' : pn b = false := by simpa using hn
      simp only [hk, hn', true_and, Bool.false_eq_true, false_and, if_false, Int.add_zero]
      by_cases hx : pn x = true
      · simp only [hx, if_true]
        by_cases hbx : po b = x
        · have : b = po x := by rw [← hbx, po_po hk]
          have h2 : po (po x) = x := po_po (pn_pk hx)
          simp [this, h2]
        · have : b ≠ po x := fun e => hbx (by rw [e, po_po (pn_pk hx)])
          simp [hbx, this]
      · have hbx : po b ≠ x := fun e => hx (by rw [← e, pn_po hk, hn']; rfl)
        simp [hx, hbx]
theorem oc_zero {l : List UInt8} {q p : Nat} {F : Nat → List Int} (h : Rt l q p [] F) (x : Int) : oc l x q (p + 1 - q) = 0 := by
  have hqp := h.1
  rw [oc_stack h x _ (by omega), show q + (p + 1 - q) = p + 1 by omega, h.2.2.1]; simp
theorem oc_bound (l : List UInt8) (x : Int) (a : Nat) : ∀ d : Nat, -(d : Int) ≤ oc l x a d ∧ oc l x a d ≤ d
  | 0 => by simp [oc]
  | d + 1 => by
    have := oc_bound l x a d
    unfold oc
    split <;> split <;> omega
end Go.Proofs.YtkapddemgodamaaDoor
