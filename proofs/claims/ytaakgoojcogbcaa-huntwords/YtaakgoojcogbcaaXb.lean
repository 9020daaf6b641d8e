/- Around a list of places (pure): how often, and where one comes to. -/
import Derived.Test.YtaakgoojcogbcaaPure
import Derived.Test.YtaakgoojcogbcaaFnd
import Derived.Test.YtaakgoojcogbcaaXa
namespace Go.Proofs.Ytaakgoojcogbcaa

/-- c times -/
def itr (f : Nat → Nat) : Nat → Nat → Nat
  | 0, x => x
  | c + 1, x => itr f c (f x)
theorem itr_succ (f : Nat → Nat) : ∀ (c x : Nat), itr f (c + 1) x = f (itr f c x)
  | 0, _ => rfl
  | c + 1, x => itr_succ f c (f x)
theorem itr_add (f : Nat → Nat) : ∀ (c d x : Nat), itr f (c + d) x = itr f d (itr f c x)
  | 0, d, x => by rw [Nat.zero_add]; rfl
  | c + 1, d, x => by
    rw [show c + 1 + d = (c + d) + 1 by omega]
    exact itr_add f c d (f x)
theorem itr_mul {f : Nat → Nat} {k x : Nat} (h : itr f k x = x) : ∀ m, itr f (k * m) x = x
  | 0 => rfl
  | m + 1 => by rw [Nat.mul_succ, itr_add, itr_mul h m, h]
/-- come round, the rest of the count goes over the same -/
theorem itr_mod {f : Nat → Nat} {k x : Nat} (h : itr f k x = x) (m : Nat) : itr f m x = itr f (m % k) x := by
  conv => lhs; rw [← Nat.div_add_mod m k]
  rw [itr_add, itr_mul h]

theorem cnt_iff {P : Nat → Bool} : ∀ {H : List Nat}, H.Pairwise (fun a b => P b = true → P a = true) → ∀ (k : Nat) (hk : k < H.length), (P H[k] = true ↔ k < H.countP P)
  | [], _, k, hk => by simp at hk
  | x :: r, hp, k, hk => by
    rw [List.pairwise_cons] at hp
    by_cases hx : P x = true
    · rw [List.countP_cons_of_pos hx]
      cases k with
      | zero => simp [hx]
      | succ k =>
        have := cnt_iff hp.2 k (by simpa using hk)
        simp only [List.getElem_cons_succ]
        rw [this]; omega
    · have h0 : (x :: r).countP P = 0 := by
        rw [List.countP_eq_zero]
        intro a ha
        rcases List.mem_cons.1 ha with e | e
        · rw [e]; exact hx
        · exact fun h => hx (hp.1 a e h)
      rw [h0]
      constructor
      · intro h
        exfalso
        cases k with
        | zero => exact hx (by simpa using h)
        | succ k => exact hx (hp.1 _ (List.getElem_mem (by simpa using hk)) (by simpa using h))
      · intro h; omega

/-- how many are at most at -/
def hUp (H : List Nat) (at_ : Nat) : Nat := H.countP fun h => decide (h ≤ at_)
def hDn (H : List Nat) (at_ : Nat) : Nat := H.countP fun h => decide (h < at_)
abbrev Ris (H : List Nat) : Prop := H.Pairwise (· < ·)
section
variable {H : List Nat} {at_ : Nat}
theorem hUp_le : hUp H at_ ≤ H.length := List.countP_le_length
theorem hDn_le : hDn H at_ ≤ H.length := List.countP_le_length
theorem hUp_iff (hr : Ris H) (k : Nat) (hk : k < H.length) : H[k] ≤ at_ ↔ k < hUp H at_ := by
  have := cnt_iff (P := fun h => decide (h ≤ at_)) (hr.imp fun {a b} h => by simp; omega) k hk
  unfold hUp
  simpa using this
theorem hDn_iff (hr : Ris H) (k : Nat) (hk : k < H.length) : H[k] < at_ ↔ k < hDn H at_ := by
  have := cnt_iff (P := fun h => decide (h < at_)) (hr.imp fun {a b} h => by simp; omega) k hk
  unfold hDn
  simpa using this
theorem ris_lt (hr : Ris H) {i j : Nat} (hi : i < H.length) (hj : j < H.length) : H[i] < H[j] ↔ i < j := by
  rcases Nat.lt_trichotomy i j with h | h | h
  · exact ⟨fun _ => h, fun _ => List.pairwise_iff_getElem.1 hr i j hi hj h⟩
  · subst h; exact ⟨fun h => by omega, fun h => by omega⟩
  · have := List.pairwise_iff_getElem.1 hr j i hj hi h
    exact ⟨fun h => by omega, fun h => by omega⟩
theorem ris_le (hr : Ris H) {i j : Nat} (hi : i < H.length) (hj : j < H.length) : H[i] ≤ H[j] ↔ i ≤ j := by
  have := ris_lt hr hj hi
  omega
theorem hUp_at (hr : Ris H) (k : Nat) (hk : k < H.length) : hUp H H[k] = k + 1 := by
  have h1 := (hUp_iff (at_ := H[k]) hr k hk).1 (Nat.le_refl _)
  rcases Nat.lt_or_ge (k + 1) (hUp H H[k]) with h | h
  · have h2 : k + 1 < H.length := Nat.lt_of_lt_of_le h hUp_le
    have := (hUp_iff (at_ := H[k]) hr (k + 1) h2).2 h
    have := (ris_le hr h2 hk).1 this
    omega
  · omega
theorem hDn_at (hr : Ris H) (k : Nat) (hk : k < H.length) : hDn H H[k] = k := by
  rcases Nat.lt_trichotomy (hDn H H[k]) k with h | h | h
  · have := (hDn_iff (at_ := H[k]) hr (hDn H H[k]) (by omega)).1 ((ris_lt hr (by omega) hk).2 h)
    omega
  · exact h
  · have := (hDn_iff (at_ := H[k]) hr k hk).2 h
    omega
end
/-- the next one, around the end -/
def fwd (H : List Nat) (at_ : Nat) : Nat := H.getD (hUp H at_ % H.length) 0
/-- the one ahead, around the beginning -/
def bwd (H : List Nat) (at_ : Nat) : Nat := H.getD ((hDn H at_ + (H.length - 1)) % H.length) 0
section
variable {H : List Nat} {at_ x : Nat}
theorem getD_at {k : Nat} (hk : k < H.length) : H.getD k 0 = H[k] := by simp [List.getD, hk]
theorem fwd_up (hr : Ris H) (hx : x ∈ H) (h1 : at_ < x) (h2 : ∀ h, h ∈ H → at_ < h → x ≤ h) : fwd H at_ = x := by
  obtain ⟨k, hk, rfl⟩ := List.mem_iff_getElem.1 hx
  have hn : ¬ k < hUp H at_ := fun h => by have := (hUp_iff hr k hk).2 h; omega
  have hu : hUp H at_ < H.length := by omega
  have h3 : at_ < H[hUp H at_] := by
    rcases Nat.lt_or_ge at_ H[hUp H at_] with h | h
    · exact h
    · have := (hUp_iff hr _ hu).1 h; omega
  have h4 := (ris_le hr hk hu).1 (h2 _ (List.getElem_mem hu) h3)
  have : hUp H at_ = k := by omega
  unfold fwd
  rw [this, Nat.mod_eq_of_lt hk, getD_at hk]
theorem least_zero (hr : Ris H) (hx : x ∈ H) (h2 : ∀ h, h ∈ H → x ≤ h) : ∃ h : 0 < H.length, x = H[0] := by
  obtain ⟨k, hk, rfl⟩ := List.mem_iff_getElem.1 hx
  have := (ris_le hr hk (show 0 < H.length by omega)).1 (h2 _ (List.getElem_mem (by omega)))
  have : k = 0 := by omega
  subst this
  exact ⟨hk, rfl⟩
theorem fwd_low (hr : Ris H) (hx : x ∈ H) (h1 : ∀ h, h ∈ H → h ≤ at_) (h2 : ∀ h, h ∈ H → x ≤ h) : fwd H at_ = x := by
  obtain ⟨h0, rfl⟩ := least_zero hr hx h2
  have : hUp H at_ = H.length := by
    rcases Nat.lt_or_ge (hUp H at_) H.length with h | h
    · have := (hUp_iff hr _ h).1 (h1 _ (List.getElem_mem h)); omega
    · have := hUp_le (H := H) (at_ := at_); omega
  unfold fwd
  rw [this, Nat.mod_self, getD_at h0]
theorem bwd_dn (hr : Ris H) (hx : x ∈ H) (h1 : x < at_) (h2 : ∀ h, h ∈ H → h < at_ → h ≤ x) : bwd H at_ = x := by
  obtain ⟨k, hk, rfl⟩ := List.mem_iff_getElem.1 hx
  have hk1 := (hDn_iff hr k hk).1 h1
  have hd : hDn H at_ - 1 < H.length := by have := hDn_le (H := H) (at_ := at_); omega
  have h3 := (hDn_iff (at_ := at_) hr _ hd).2 (by omega)
  have h4 := (ris_le hr hd hk).1 (h2 _ (List.getElem_mem hd) h3)
  have : hDn H at_ = k + 1 := by omega
  unfold bwd
  rw [this, show k + 1 + (H.length - 1) = k + H.length by omega, Nat.add_mod_right, Nat.mod_eq_of_lt hk, getD_at hk]
theorem bwd_high (hr : Ris H) (hx : x ∈ H) (h1 : ∀ h, h ∈ H → at_ ≤ h) (h2 : ∀ h, h ∈ H → h ≤ x) : bwd H at_ = x := by
  obtain ⟨k, hk, rfl⟩ := List.mem_iff_getElem.1 hx
  have hl : H.length - 1 < H.length := by omega
  have := (ris_le hr hl hk).1 (h2 _ (List.getElem_mem hl))
  have hk2 : k = H.length - 1 := by omega
  have h0 : hDn H at_ = 0 := by
    rcases Nat.eq_zero_or_pos (hDn H at_) with h | h
    · exact h
    · have := (hDn_iff (at_ := at_) hr 0 (by omega)).2 h
      have := h1 _ (List.getElem_mem (show 0 < H.length by omega))
      omega
  unfold bwd
  rw [h0, Nat.zero_add, Nat.mod_eq_of_lt hl, getD_at hl]
  subst hk2; rfl
theorem fwd_at (hr : Ris H) {k : Nat} (hk : k < H.length) : fwd H (H.getD k 0) = H.getD ((k + 1) % H.length) 0 := by
  unfold fwd; rw [getD_at hk, hUp_at hr k hk]
theorem bwd_at (hr : Ris H) {k : Nat} (hk : k < H.length) : bwd H (H.getD k 0) = H.getD ((k + (H.length - 1)) % H.length) 0 := by
  unfold bwd; rw [getD_at hk, hDn_at hr k hk]
/-- from place number k, c times -/
theorem itr_fwd (hr : Ris H) (h0 : 0 < H.length) : ∀ (c k : Nat), itr (fwd H) c (H.getD (k % H.length) 0) = H.getD ((k + c) % H.length) 0
  | 0, k => rfl
  | c + 1, k => by
    show itr (fwd H) c (fwd H (H.getD (k % H.length) 0)) = _
    rw [fwd_at hr (Nat.mod_lt _ h0), itr_fwd hr h0 c, show k % H.length + 1 + c = k % H.length + (c + 1) by omega, Nat.mod_add_mod]
theorem itr_bwd (hr : Ris H) (h0 : 0 < H.length) : ∀ (c k : Nat), itr (bwd H) c (H.getD (k % H.length) 0) = H.getD ((k + c * (H.length - 1)) % H.length) 0
  | 0, k => by simp [itr]
  | c + 1, k => by
    show itr (bwd H) c (bwd H (H.getD (k % H.length) 0)) = _
    rw [bwd_at hr (Nat.mod_lt _ h0), itr_bwd hr h0 c, show k % H.length + (H.length - 1) + c * (H.length - 1) = k % H.length + (c * (H.length - 1) + (H.length - 1)) by omega, Nat.mod_add_mod, Nat.succ_mul]
/-- count times from a place -/
theorem go_fwd (hr : Ris H) (h0 : 0 < H.length) (c : Nat) : itr (fwd H) (c + 1) at_ = H.getD ((hUp H at_ + c) % H.length) 0 := by
  show itr (fwd H) c (fwd H at_) = _
  unfold fwd
  exact itr_fwd hr h0 c _
theorem go_bwd (hr : Ris H) (h0 : 0 < H.length) (c : Nat) : itr (bwd H) (c + 1) at_ = H.getD ((hDn H at_ + (c + 1) * (H.length - 1)) % H.length) 0 := by
  show itr (bwd H) c (bwd H at_) = _
  unfold bwd
  have := itr_bwd hr h0 c (hDn H at_ + (H.length - 1))
  unfold bwd at this
  rw [this, Nat.succ_mul, show hDn H at_ + (H.length - 1) + c * (H.length - 1) = hDn H at_ + (c * (H.length - 1) + (H.length - 1)) by omega]
end
end Go.Proofs.Ytaakgoojcogbcaa
/- Hits of a pattern in a text (pure). -/
namespace Go.Proofs.Ytaakgoojcogbcaa

/-- does the pattern match at a place of a line? -/
def mt (l : List Th) (line : List UInt8) (s : Nat) : Bool := (List.range (line.length + 1)).any fun b => M l line s b
theorem mt_iff {l : List Th} {line : List UInt8} {s : Nat} : mt l line s = true ↔ ∃ b, b ≤ line.length ∧ M l line s b = true := by
  unfold mt
  rw [List.any_eq_true]
  constructor
  · rintro ⟨b, hb, h⟩; exact ⟨b, by have := List.mem_range.1 hb; omega, h⟩
  · rintro ⟨b, hb, h⟩; exact ⟨b, List.mem_range.2 (by omega), h⟩
theorem mt_le {l : List Th} {line : List UInt8} {s : Nat} (h : mt l line s = true) : s ≤ line.length := by
  obtain ⟨b, hb, h⟩ := mt_iff.1 h
  have := M_le h
  omega
theorem mt_false {l : List Th} {line : List UInt8} {s : Nat} (h : ∀ b', b' ≤ line.length → M l line s b' = false) : mt l line s = false := by
  cases e : mt l line s with
  | false => rfl
  | true => obtain ⟨b, hb, h2⟩ := mt_iff.1 e; rw [h b hb] at h2; cases h2
theorem FS.yes {l : List Th} {line : List UInt8} {f a b : Nat} (h : FS l line f a b true) : f ≤ a ∧ a ≤ line.length ∧ mt l line a = true ∧ ∀ s, f ≤ s → s < a → mt l line s = false := by
  rcases h with ⟨_, h1, h2, h3, h4, h5, _⟩ | ⟨h, _⟩
  · exact ⟨h1, by omega, mt_iff.2 ⟨b, h3, h4⟩, fun s hs hs2 => mt_false (h5 s hs hs2)⟩
  · cases h
theorem FS.not {l : List Th} {line : List UInt8} {f a b : Nat} (h : FS l line f a b false) : ∀ s, f ≤ s → mt l line s = false := by
  rcases h with ⟨h, _⟩ | ⟨_, _, _, h⟩
  · cases h
  · exact fun s hs => mt_false (h s hs)

section
variable {t : List UInt8}
theorem en_same {s q : Nat} (hs : s ≤ t.length) (h1 : s ≤ q) (h2 : q ≤ en t s) : en t q = en t s := by
  have hl := en_le hs
  refine en_eq h2 hl (fun j h3 h4 => en_none (by omega) h4) ?_
  rcases Nat.lt_or_ge (en t s) t.length with h | h
  · exact .inr (en_edge h)
  · exact .inl (by omega)
theorem en_bg {p : Nat} (h : p ≤ t.length) : en t (bg t p) = en t p := (en_same (by have := bg_le t p; omega) (bg_le t p) (place_en h)).symm
theorem en_ge' (p : Nat) : p ≤ en t p := en_ge t p
theorem bg_same {p q : Nat} (hp : p ≤ t.length) (h1 : bg t p ≤ q) (h2 : q ≤ en t p) : bg t q = bg t p := by
  have hb := bg_le t p
  have hl := en_le hp
  have e1 := nl_flat (t := t) (s := bg t p) (q - bg t p) (by rw [en_bg hp]; omega) (by omega)
  have e2 := nl_flat (t := t) (s := bg t p) (p - bg t p) (by rw [en_bg hp]; have := en_ge t p; omega) (by omega)
  rw [show bg t p + (q - bg t p) = q by omega] at e1
  rw [show bg t p + (p - bg t p) = p by omega] at e2
  have s1 := bg_st t q (by omega)
  have s2 := bg_st t p hp
  rw [e1, ← e2] at s1
  exact s1.one s2
end
/-- the line of a place -/
def lp (t : List UInt8) (p : Nat) : List UInt8 := (t.drop (bg t p)).take (en t p - bg t p)
section
variable {t : List UInt8} {l : List Th}
theorem lp_len {p : Nat} (h : p ≤ t.length) : (lp t p).length = en t p - bg t p := by
  unfold lp
  rw [List.length_take, List.length_drop]
  have := en_le h
  omega
theorem lp_same {p q : Nat} (hp : p ≤ t.length) (h1 : bg t p ≤ q) (h2 : q ≤ en t p) : lp t q = lp t p := by
  unfold lp
  have hb := bg_le t p
  rw [bg_same hp h1 h2, show en t q = en t p by rw [← en_bg hp] at h2 ⊢; exact en_same (by omega) h1 h2]
/-- does it match at a place of the text? -/
def mp (l : List Th) (t : List UInt8) (p : Nat) : Bool := decide (p ≤ t.length) && mt l (lp t p) (p - bg t p)
theorem mp_le {p : Nat} (h : mp l t p = true) : p ≤ t.length := by unfold mp at h; simp at h; exact h.1
theorem mp_out {p : Nat} (h : t.length < p) : mp l t p = false := by unfold mp; rw [decide_eq_false (by omega)]; rfl
theorem mp_in {p q : Nat} (hp : p ≤ t.length) (h1 : bg t p ≤ q) (h2 : q ≤ en t p) : mp l t q = mt l (lp t p) (q - bg t p) := by
  have := en_le hp
  unfold mp
  rw [decide_eq_true (by omega), lp_same hp h1 h2, bg_same hp h1 h2]; rfl
theorem rs_cases (p : Nat) : rs t p = p ∨ rs t p + 1 = p := by
  unfold rs
  split
  · exact .inl rfl
  · rename_i h
    cases p with
    | zero => exact .inl rfl
    | succ p => exact .inr (by omega)
theorem rs_le (p : Nat) : rs t p ≤ p := by rcases rs_cases (t := t) p with h | h <;> omega
theorem rs_mono {p q : Nat} (h : p ≤ q) : rs t p ≤ rs t q := by
  rcases Nat.eq_or_lt_of_le h with e | e
  · rw [e]; exact Nat.le_refl _
  · have := rs_le (t := t) p
    rcases rs_cases (t := t) q with h | h <;> omega
/-- the hits -/
def hs (l : List Th) (t : List UInt8) : List Nat := (List.range (t.length + 1)).filter fun h => (List.range (t.length + 1)).any fun p => mp l t p && (rs t p == h)
theorem hs_ris : Ris (hs l t) := List.Pairwise.filter _ List.pairwise_lt_range
theorem hs_iff {h : Nat} : h ∈ hs l t ↔ ∃ p, mp l t p = true ∧ rs t p = h := by
  unfold hs
  rw [List.mem_filter, List.any_eq_true]
  constructor
  · rintro ⟨_, p, _, h2⟩
    rw [Bool.and_eq_true, beq_iff_eq] at h2
    exact ⟨p, h2⟩
  · rintro ⟨p, h1, h2⟩
    have h3 := mp_le h1
    have h4 := rs_le (t := t) p
    exact ⟨List.mem_range.2 (by omega), p, List.mem_range.2 (by omega), by rw [Bool.and_eq_true, beq_iff_eq]; exact ⟨h1, h2⟩⟩
theorem hs_low {h : Nat} (hh : h ∈ hs l t) : h ≤ t.length := by
  obtain ⟨p, h1, h2⟩ := hs_iff.1 hh
  have h3 := mp_le h1
  have h4 := rs_le (t := t) p
  omega
theorem hs_nil (h : ∀ p, mp l t p = false) : hs l t = [] := by
  apply List.eq_nil_iff_forall_not_mem.2
  intro x hx
  obtain ⟨p, h1, _⟩ := hs_iff.1 hx
  rw [h p] at h1; cases h1
theorem hs_pos {p : Nat} (h : mp l t p = true) : 0 < (hs l t).length := List.length_pos_of_mem (hs_iff.2 ⟨p, h, rfl⟩)
/-- the first match from f on, at rest -/
def FF (l : List Th) (t : List UInt8) (f : Nat) (x : Nat) (ok : Bool) : Prop :=
  (ok = true ∧ ∃ p, f ≤ p ∧ mp l t p = true ∧ (∀ q, f ≤ q → q < p → mp l t q = false) ∧ x = rs t p) ∨ (ok = false ∧ x = 0 ∧ ∀ q, f ≤ q → mp l t q = false)
/-- the last match up to f, at rest -/
def LL (l : List Th) (t : List UInt8) (f : Int) (x : Nat) (ok : Bool) : Prop :=
  (ok = true ∧ ∃ p : Nat, (p : Int) ≤ f ∧ mp l t p = true ∧ (∀ q : Nat, (q : Int) ≤ f → p < q → mp l t q = false) ∧ x = rs t p) ∨ (ok = false ∧ x = 0 ∧ ∀ q : Nat, (q : Int) ≤ f → mp l t q = false)
/-- onward, by two searches -/
def upf (t : List UInt8) (at_ : Nat) : Nat := if rs t (at_ + 1) ≤ at_ then at_ + 2 else at_ + 1
theorem upf_iff {at_ p : Nat} : at_ < rs t p ↔ upf t at_ ≤ p := by
  unfold upf
  by_cases h : rs t (at_ + 1) ≤ at_
  · rw [if_pos h]
    constructor
    · intro h1
      rcases Nat.lt_or_ge p (at_ + 2) with h2 | h2
      · have := rs_mono (t := t) (p := p) (q := at_ + 1) (by omega); omega
      · exact h2
    · intro h1
      rcases rs_cases (t := t) p with h | h <;> omega
  · rw [if_neg h]
    constructor
    · intro h1; have := rs_le (t := t) p; omega
    · intro h1; have := rs_mono (t := t) (p := at_ + 1) (q := p) h1; omega
theorem fwd_one {at_ x : Nat} (h : FF l t (upf t at_) x true) : fwd (hs l t) at_ = x := by
  rcases h with ⟨_, p, h1, h2, h3, rfl⟩ | ⟨h, _⟩
  · refine fwd_up hs_ris (hs_iff.2 ⟨p, h2, rfl⟩) (upf_iff.2 h1) fun h hh hl => ?_
    obtain ⟨q, g1, rfl⟩ := hs_iff.1 hh
    have := upf_iff.1 hl
    rcases Nat.lt_or_ge q p with h4 | h4
    · rw [h3 q this h4] at g1; cases g1
    · exact rs_mono h4
  · cases h
theorem fwd_two {at_ x y : Nat} (h : FF l t (upf t at_) y false) (h' : FF l t 0 x true) : fwd (hs l t) at_ = x := by
  rcases h with ⟨h, _⟩ | ⟨_, _, h⟩
  · cases h
  · rcases h' with ⟨_, p, h1, h2, h3, rfl⟩ | ⟨h, _⟩
    · refine fwd_low hs_ris (hs_iff.2 ⟨p, h2, rfl⟩) (fun h9 hh => ?_) (fun h9 hh => ?_)
      · obtain ⟨q, g1, rfl⟩ := hs_iff.1 hh
        rcases Nat.lt_or_ge at_ (rs t q) with h4 | h4
        · rw [h q (upf_iff.1 h4)] at g1; cases g1
        · exact h4
      · obtain ⟨q, g1, rfl⟩ := hs_iff.1 hh
        rcases Nat.lt_or_ge q p with h4 | h4
        · rw [h3 q (Nat.zero_le _) h4] at g1; cases g1
        · exact rs_mono h4
    · cases h
theorem hs_none {x : Nat} (h : FF l t 0 x false) : hs l t = [] := by
  rcases h with ⟨h, _⟩ | ⟨_, _, h⟩
  · cases h
  · exact hs_nil fun p => h p (Nat.zero_le _)
theorem FF.pos {f x : Nat} (h : FF l t f x true) : 0 < (hs l t).length := by
  rcases h with ⟨_, p, _, h2, _⟩ | ⟨h, _⟩
  · exact hs_pos h2
  · cases h
/-- back -/
def dnf (t : List UInt8) (at_ : Nat) : Int := if rs t at_ = at_ then (at_ : Int) - 1 else at_
theorem dnf_iff {at_ p : Nat} : rs t p < at_ ↔ (p : Int) ≤ dnf t at_ := by
  unfold dnf
  by_cases h : rs t at_ = at_
  · rw [if_pos h]
    constructor
    · intro h1
      rcases Nat.lt_or_ge p at_ with h2 | h2
      · omega
      · have := rs_mono (t := t) h2; omega
    · intro h1; have := rs_le (t := t) p; omega
  · rw [if_neg h]
    have h0 : rs t at_ < at_ := by have := rs_le (t := t) at_; omega
    constructor
    · intro h1
      rcases Nat.lt_or_ge at_ p with h2 | h2
      · rcases rs_cases (t := t) p with h | h <;> omega
      · omega
    · intro h1; have := rs_mono (t := t) (p := p) (q := at_) (by omega); omega
theorem bwd_one {at_ x : Nat} (h : LL l t (dnf t at_) x true) : bwd (hs l t) at_ = x := by
  rcases h with ⟨_, p, h1, h2, h3, rfl⟩ | ⟨h, _⟩
  · refine bwd_dn hs_ris (hs_iff.2 ⟨p, h2, rfl⟩) (dnf_iff.2 h1) fun h hh hl => ?_
    obtain ⟨q, g1, rfl⟩ := hs_iff.1 hh
    have := dnf_iff.1 hl
    rcases Nat.lt_or_ge p q with h4 | h4
    · rw [h3 q this h4] at g1; cases g1
    · exact rs_mono h4
  · cases h
theorem bwd_two {at_ x y : Nat} (h : LL l t (dnf t at_) y false) (h' : LL l t (t.length : Int) x true) : bwd (hs l t) at_ = x := by
  rcases h with ⟨h, _⟩ | ⟨_, _, h⟩
  · cases h
  · rcases h' with ⟨_, p, h1, h2, h3, rfl⟩ | ⟨h, _⟩
    · refine bwd_high hs_ris (hs_iff.2 ⟨p, h2, rfl⟩) (fun h9 hh => ?_) (fun h9 hh => ?_)
      · obtain ⟨q, g1, rfl⟩ := hs_iff.1 hh
        rcases Nat.lt_or_ge (rs t q) at_ with h4 | h4
        · rw [h q (dnf_iff.1 h4)] at g1; cases g1
        · exact h4
      · obtain ⟨q, g1, rfl⟩ := hs_iff.1 hh
        have := mp_le g1
        rcases Nat.lt_or_ge p q with h4 | h4
        · rw [h3 q (by omega) h4] at g1; cases g1
        · exact rs_mono h4
    · cases h
theorem hs_none' {x : Nat} (h : LL l t (t.length : Int) x false) : hs l t = [] := by
  rcases h with ⟨h, _⟩ | ⟨_, _, h⟩
  · cases h
  · refine hs_nil fun p => ?_
    rcases Nat.lt_or_ge t.length p with h9 | h9
    · exact mp_out h9
    · exact h p (by omega)
theorem LL.pos {f : Int} {x : Nat} (h : LL l t f x true) : 0 < (hs l t).length := by
  rcases h with ⟨_, p, _, h2, _⟩ | ⟨h, _⟩
  · exact hs_pos h2
  · cases h
/-- one line is looked at, onward -/
theorem FF.line {f a b : Nat} (hf : f ≤ t.length) (h : FS l (lp t f) (f - bg t f) a b true) : FF l t f (rs t (bg t f + a)) true := by
  obtain ⟨h1, h2, h3, h4⟩ := h.yes
  rw [lp_len hf] at h2
  have hb := bg_le t f
  have he := en_ge t f
  refine .inl ⟨rfl, bg t f + a, by omega, ?_, fun q q1 q2 => ?_, rfl⟩
  · rw [mp_in hf (by omega) (by omega), Nat.add_sub_cancel_left]; exact h3
  · rw [mp_in hf (by omega) (by omega)]; exact h4 _ (by omega) (by omega)
theorem FF.next {f a b x : Nat} {ok : Bool} (hf : f ≤ t.length) (h : FS l (lp t f) (f - bg t f) a b false) (h' : FF l t (en t f + 1) x ok) : FF l t f x ok := by
  have hn := h.not
  have hb := bg_le t f
  have he := en_ge t f
  have key : ∀ q, f ≤ q → q < en t f + 1 → mp l t q = false := fun q q1 q2 => by
    rw [mp_in hf (by omega) (by omega)]; exact hn _ (by omega)
  rcases h' with ⟨e, p, h1, h2, h3, h4⟩ | ⟨e, e2, h3⟩
  · refine .inl ⟨e, p, by omega, h2, fun q q1 q2 => ?_, h4⟩
    rcases Nat.lt_or_ge q (en t f + 1) with h | h
    · exact key q q1 h
    · exact h3 q h q2
  · refine .inr ⟨e, e2, fun q q1 => ?_⟩
    rcases Nat.lt_or_ge q (en t f + 1) with h | h
    · exact key q q1 h
    · exact h3 q h
theorem FF.end {f : Nat} (hf : t.length < f) : FF l t f 0 false := .inr ⟨rfl, rfl, fun q hq => mp_out (by omega)⟩
/-- the last match of a line up to k -/
def LM (l : List Th) (line : List UInt8) (k x : Nat) (ok : Bool) : Prop :=
  (ok = true ∧ x ≤ k ∧ mt l line x = true ∧ ∀ s, x < s → s ≤ k → mt l line s = false) ∨ (ok = false ∧ x = 0 ∧ ∀ s, s ≤ k → mt l line s = false)
theorem LL.line {f x : Nat} (hf : f ≤ t.length) (h : LM l (lp t f) (f - bg t f) x true) : LL l t (f : Int) (rs t (bg t f + x)) true := by
  rcases h with ⟨_, h1, h2, h3⟩ | ⟨h, _⟩
  · have hb := bg_le t f
    have he := en_ge t f
    refine .inl ⟨rfl, bg t f + x, by omega, ?_, fun q q1 q2 => ?_, rfl⟩
    · rw [mp_in hf (by omega) (by omega), Nat.add_sub_cancel_left]; exact h2
    · rw [mp_in hf (by omega) (by omega)]; exact h3 _ (by omega) (by omega)
  · cases h
theorem LL.next {f x y : Nat} {ok : Bool} (hf : f ≤ t.length) (h : LM l (lp t f) (f - bg t f) y false) (h' : LL l t ((bg t f : Int) - 1) x ok) : LL l t (f : Int) x ok := by
  rcases h with ⟨h, _⟩ | ⟨_, _, hn⟩
  · cases h
  have hb := bg_le t f
  have he := en_ge t f
  have key : ∀ q : Nat, bg t f ≤ q → q ≤ f → mp l t q = false := fun q q1 q2 => by
    rw [mp_in hf (by omega) (by omega)]; exact hn _ (by omega)
  rcases h' with ⟨e, p, h1, h2, h3, h4⟩ | ⟨e, e2, h3⟩
  · refine .inl ⟨e, p, by omega, h2, fun q q1 q2 => ?_, h4⟩
    rcases Nat.lt_or_ge q (bg t f) with h | h
    · exact h3 q (by omega) q2
    · exact key q h (by omega)
  · refine .inr ⟨e, e2, fun q q1 => ?_⟩
    rcases Nat.lt_or_ge q (bg t f) with h | h
    · exact h3 q (by omega)
    · exact key q h (by omega)
theorem LL.end {f : Int} (hf : f < 0) : LL l t f 0 false := .inr ⟨rfl, rfl, fun q hq => by omega⟩
end
end Go.Proofs.Ytaakgoojcogbcaa
