/- Lists of spans as plain data: packing, cutting by bytes, and that a packed list is told by its bytes. -/
import Derived.Test.YtjjgloioppjcaaaRows
namespace Go.Proofs.Ytjjgloioppjcaaa

/-- A span: Src, Off, Len. -/
structure Sp where
  s : Int
  o : Int
  l : Int

theorem Sp.ext' {p q : Sp} (h1 : p.s = q.s) (h2 : p.o = q.o) (h3 : p.l = q.l) : p = q := by
  cases p; cases q; simp_all

def rgt (p : Sp) : Bool := decide ((p.s = 0 ∨ p.s = 1) ∧ 0 ≤ p.o ∧ 0 ≤ p.l ∧ p.o + p.l ≤ 2147483647)
theorem rgt_iff (p : Sp) : rgt p = true ↔ ((p.s = 0 ∨ p.s = 1) ∧ 0 ≤ p.o ∧ 0 ≤ p.l ∧ p.o + p.l ≤ 2147483647) := by
  unfold rgt; simp
def okL (L : List Sp) : Bool := L.all rgt
theorem okL_mem {L : List Sp} (h : okL L = true) {p : Sp} (hp : p ∈ L) : rgt p = true := List.all_eq_true.1 h p hp
theorem okL_append (A B : List Sp) : okL (A ++ B) = (okL A && okL B) := by simp [okL]
theorem okL_take {L : List Sp} {j : Nat} {p : Sp} (h : L[j]? = some p) : okL (L.take (j + 1)) = (okL (L.take j) && rgt p) := by
  obtain ⟨h1, h2⟩ := List.getElem?_eq_some_iff.1 h
  rw [List.take_succ_eq_append_getElem h1, okL_append, h2]; simp [okL]
theorem okL_not {L : List Sp} {j : Nat} {p : Sp} (h : L[j]? = some p) (hp : rgt p = false) : okL L = false := by
  cases h2 : okL L with
  | false => rfl
  | true => rw [okL_mem h2 (List.mem_of_getElem? h)] at hp; cases hp

def fol (q p : Sp) : Bool := decide (q.s = p.s ∧ q.o + q.l = p.o)

/-- a span behind a list -/
def putL (A : List Sp) (p : Sp) : List Sp :=
  if p.l = 0 then A else
    match A.getLast? with
    | none => [p]
    | some q => if fol q p = true then A.dropLast ++ [⟨q.s, q.o, q.l + p.l⟩] else A ++ [p]
theorem putL_zero {A : List Sp} {p : Sp} (h : p.l = 0) : putL A p = A := by simp [putL, h]
theorem putL_nil {p : Sp} (h : ¬ p.l = 0) : putL [] p = [p] := by simp [putL, h]
theorem putL_join {A : List Sp} {q p : Sp} (h : ¬ p.l = 0) (hf : fol q p = true) : putL (A ++ [q]) p = A ++ [⟨q.s, q.o, q.l + p.l⟩] := by
  simp [putL, h, hf]
theorem putL_far {A : List Sp} {q p : Sp} (h : ¬ p.l = 0) (hf : fol q p = false) : putL (A ++ [q]) p = A ++ [q] ++ [p] := by
  simp [putL, h, hf]
theorem snoc_cases (A : List Sp) : A = [] ∨ ∃ B q, A = B ++ [q] := by
  rcases List.eq_nil_or_concat A with h | ⟨B, q, h⟩
  · exact .inl h
  · exact .inr ⟨B, q, by simpa using h⟩

def packL (L : List Sp) : List Sp := L.foldl putL []
theorem packL_take {L : List Sp} {j : Nat} {p : Sp} (h : L[j]? = some p) : packL (L.take (j + 1)) = putL (packL (L.take j)) p := by
  obtain ⟨h1, h2⟩ := List.getElem?_eq_some_iff.1 h
  unfold packL
  rw [List.take_succ_eq_append_getElem h1, List.foldl_append, h2]; rfl

theorem putL_length (A : List Sp) (p : Sp) : (putL A p).length ≤ A.length + 1 := by
  by_cases h : p.l = 0
  · rw [putL_zero h]; omega
  · rcases snoc_cases A with rfl | ⟨B, q, rfl⟩
    · rw [putL_nil h]; simp
    · cases hf : fol q p with
      | true => rw [putL_join h hf]; simp
      | false => rw [putL_far h hf]; simp
theorem foldl_putL_length (L : List Sp) : ∀ A, (L.foldl putL A).length ≤ A.length + L.length := by
  induction L with
  | nil => intro A; simp
  | cons p L ih => intro A; have := ih (putL A p); have := putL_length A p; simp only [List.foldl_cons, List.length_cons]; omega
theorem packL_length (L : List Sp) : (packL L).length ≤ L.length := by have := foldl_putL_length L []; simpa [packL] using this

theorem putL_ok {A : List Sp} {p : Sp} (hA : okL A = true) (hp : rgt p = true) : okL (putL A p) = true := by
  by_cases h : p.l = 0
  · rw [putL_zero h]; exact hA
  · rcases snoc_cases A with rfl | ⟨B, q, rfl⟩
    · rw [putL_nil h]; simp [okL, hp]
    · cases hf : fol q p with
      | true =>
        rw [putL_join h hf, okL_append]
        rw [okL_append] at hA
        simp only [Bool.and_eq_true] at hA ⊢
        refine ⟨hA.1, ?_⟩
        have hq : rgt q = true := by simpa [okL] using hA.2
        have h1 := (rgt_iff q).1 hq
        have h2 := (rgt_iff p).1 hp
        have h3 : q.s = p.s ∧ q.o + q.l = p.o := by unfold fol at hf; simpa using hf
        have h4 : rgt ⟨q.s, q.o, q.l + p.l⟩ = true := (rgt_iff _).2 ⟨h1.1, h1.2.1, by have := h1.2.2.1; have := h2.2.2.1; dsimp only; omega, by have := h2.2.2.2; dsimp only; omega⟩
        simp [okL, h4]
      | false =>
        rw [putL_far h hf, okL_append]
        simp [hA]; simp [okL, hp]
theorem foldl_putL_ok (L : List Sp) : ∀ A, okL A = true → okL L = true → okL (L.foldl putL A) = true := by
  induction L with
  | nil => intro A h _; exact h
  | cons p L ih =>
    intro A h h2
    have h3 : rgt p = true ∧ okL L = true := by simpa [okL] using h2
    exact ih _ (putL_ok h h3.1) h3.2
theorem packL_ok {L : List Sp} (h : okL L = true) : okL (packL L) = true := foldl_putL_ok L [] rfl h

/-- the bytes of a span, of a list -/
def byt1 (p : Sp) : List (Int × Int) := (List.range p.l.toNat).map fun (k : Nat) => (p.s, p.o + (k : Int))
def byt (L : List Sp) : List (Int × Int) := L.flatMap byt1
theorem byt_append (A B : List Sp) : byt (A ++ B) = byt A ++ byt B := by simp [byt]
theorem byt_cons (p : Sp) (B : List Sp) : byt (p :: B) = byt1 p ++ byt B := by simp [byt]
theorem byt_one (p : Sp) : byt [p] = byt1 p := by simp [byt]
theorem byt1_length (p : Sp) : (byt1 p).length = p.l.toNat := by simp [byt1]
theorem byt1_at (p : Sp) (k : Nat) : (byt1 p)[k]? = if k < p.l.toNat then some (p.s, p.o + (k : Int)) else none := by
  unfold byt1
  rw [List.getElem?_map]
  split
  · rw [List.getElem?_range (by assumption)]; rfl
  · rw [List.getElem?_eq_none (by simp; omega)]; rfl

theorem byt1_join {q p : Sp} (hq : 0 ≤ q.l) (hp : 0 ≤ p.l) (hf : fol q p = true) : byt1 ⟨q.s, q.o, q.l + p.l⟩ = byt1 q ++ byt1 p := by
  have h3 : q.s = p.s ∧ q.o + q.l = p.o := by unfold fol at hf; simpa using hf
  apply List.ext_getElem?
  intro k
  rw [byt1_at, List.getElem?_append, byt1_length, byt1_at, byt1_at]
  dsimp only
  by_cases h1 : k < q.l.toNat
  · rw [if_pos (by omega), if_pos h1, if_pos h1]
  · rw [if_neg h1]
    by_cases h2 : k - q.l.toNat < p.l.toNat
    · rw [if_pos (by omega), if_pos h2, h3.1]
      congr 2
      omega
    · rw [if_neg (by omega), if_neg h2]

theorem byt_putL {A : List Sp} {p : Sp} (hA : okL A = true) (hp : rgt p = true) : byt (putL A p) = byt A ++ byt1 p := by
  by_cases h : p.l = 0
  · rw [putL_zero h]; simp [byt1, h]
  · rcases snoc_cases A with rfl | ⟨B, q, rfl⟩
    · rw [putL_nil h]; simp [byt]
    · cases hf : fol q p with
      | true =>
        rw [putL_join h hf, byt_append, byt_append, byt_one, byt_one]
        rw [okL_append] at hA
        simp only [Bool.and_eq_true] at hA
        have hq : rgt q = true := by simpa [okL] using hA.2
        rw [byt1_join ((rgt_iff q).1 hq).2.2.1 ((rgt_iff p).1 hp).2.2.1 hf, List.append_assoc]
      | false => rw [putL_far h hf, byt_append, byt_one]
theorem byt_foldl (L : List Sp) : ∀ A, okL A = true → okL L = true → byt (L.foldl putL A) = byt A ++ byt L := by
  induction L with
  | nil => intro A _ _; simp [byt]
  | cons p L ih =>
    intro A h h2
    have h3 : rgt p = true ∧ okL L = true := by simpa [okL] using h2
    rw [List.foldl_cons, ih _ (putL_ok h h3.1) h3.2, byt_putL h h3.1, byt_cons, List.append_assoc]
theorem byt_packL {L : List Sp} (h : okL L = true) : byt (packL L) = byt L := by
  have := byt_foldl L [] rfl h
  simpa [packL, byt] using this

/-- packed -/
def pk : List Sp → Prop
  | [] => True
  | p :: r => 1 ≤ p.l ∧ (match r with | [] => True | q :: _ => fol p q = false) ∧ pk r
theorem pk_far : ∀ {A : List Sp} {q p : Sp}, pk (A ++ [q]) → 1 ≤ p.l → fol q p = false → pk (A ++ [q] ++ [p])
  | [], _, _, h, h1, h2 => ⟨h.1, h2, h1, trivial, trivial⟩
  | [_], _, _, h, h1, h2 => ⟨h.1, h.2.1, pk_far (A := []) h.2.2 h1 h2⟩
  | _ :: b :: A, _, _, h, h1, h2 => ⟨h.1, h.2.1, pk_far (A := b :: A) h.2.2 h1 h2⟩
theorem pk_more : ∀ {A : List Sp} {q : Sp} {k : Int}, pk (A ++ [q]) → 0 ≤ k → pk (A ++ [⟨q.s, q.o, q.l + k⟩])
  | [], _, _, h, h1 => ⟨by have := h.1; dsimp only; omega, trivial, trivial⟩
  | [_], _, _, h, h1 => ⟨h.1, by have := h.2.1; simpa [fol] using this, pk_more (A := []) h.2.2 h1⟩
  | _ :: b :: A, _, _, h, h1 => ⟨h.1, h.2.1, pk_more (A := b :: A) h.2.2 h1⟩
theorem pk_putL {A : List Sp} {p : Sp} (hA : pk A) (hp : 0 ≤ p.l) : pk (putL A p) := by
  by_cases h : p.l = 0
  · rw [putL_zero h]; exact hA
  · rcases snoc_cases A with rfl | ⟨B, q, rfl⟩
    · rw [putL_nil h]; exact ⟨by omega, trivial, trivial⟩
    · cases hf : fol q p with
      | true => rw [putL_join h hf]; exact pk_more hA hp
      | false => rw [putL_far h hf]; exact pk_far hA (by omega) hf
theorem pk_foldl (L : List Sp) : ∀ A, pk A → okL L = true → pk (L.foldl putL A) := by
  induction L with
  | nil => intro A h _; exact h
  | cons p L ih =>
    intro A h h2
    have h3 : rgt p = true ∧ okL L = true := by simpa [okL] using h2
    exact ih _ (pk_putL h ((rgt_iff p).1 h3.1).2.2.1) h3.2
theorem pk_packL {L : List Sp} (h : okL L = true) : pk (packL L) := pk_foldl L [] trivial h
theorem pk_at : ∀ {L : List Sp}, pk L → (∀ (i : Nat) (p : Sp), L[i]? = some p → 1 ≤ p.l) ∧ (∀ (i : Nat) (q p : Sp), L[i]? = some q → L[i + 1]? = some p → fol q p = false)
  | [], _ => ⟨fun i p h => by simp at h, fun i q p h => by simp at h⟩
  | [a], h => ⟨fun i p hp => by
      cases i with
      | zero => simp at hp; subst hp; exact h.1
      | succ i => simp at hp, fun i q p _ hp => by simp at hp⟩
  | a :: b :: r, h => by
      obtain ⟨h1, h2⟩ := pk_at (L := b :: r) h.2.2
      refine ⟨fun i p hp => ?_, fun i q p hq hp => ?_⟩
      · cases i with
        | zero => simp at hp; subst hp; exact h.1
        | succ i => rw [List.getElem?_cons_succ] at hp; exact h1 i p hp
      · cases i with
        | zero => simp at hq hp; subst hq hp; exact h.2.1
        | succ i => rw [List.getElem?_cons_succ] at hp hq; exact h2 i q p hq hp

theorem byt_ne {p : Sp} {B : List Sp} (h : 1 ≤ p.l) : (byt (p :: B))[0]? = some (p.s, p.o) := by
  rw [byt_cons, List.getElem?_append, byt1_length, if_pos (by omega), byt1_at, if_pos (by omega)]; simp

/-- no span of A is shorter than the one of B at its place -/
theorem pk_le {p q : Sp} {A B : List Sp} (hA : pk (p :: A)) (h : byt (p :: A) = byt (q :: B)) (hs : p.s = q.s) (ho : p.o = q.o) : q.l ≤ p.l := by
  rcases Int.lt_or_le p.l q.l with hl | hl
  · exfalso
    have h1 := hA.1
    have e := congrArg (fun x => x[p.l.toNat]?) h
    rw [byt_cons q B, List.getElem?_append, byt1_length, if_pos (by omega), byt1_at, if_pos (by omega)] at e
    rw [byt_cons p A, List.getElem?_append, byt1_length, if_neg (by omega), Nat.sub_self] at e
    cases A with
    | nil => simp [byt] at e
    | cons r A =>
      rw [byt_ne hA.2.2.1] at e
      have h2 := hA.2.1
      simp only [Option.some.injEq, Prod.mk.injEq] at e
      dsimp only at h2
      have : fol p r = true := by unfold fol; simp only [decide_eq_true_eq]; omega
      rw [this] at h2; cases h2
  · exact hl

/-- A packed list is told by its bytes. -/
theorem pk_eq : ∀ (A B : List Sp), pk A → pk B → byt A = byt B → A = B
  | [], [], _, _, _ => rfl
  | [], q :: B, _, hB, h => by have := byt_ne (B := B) hB.1; rw [← h] at this; simp [byt] at this
  | p :: A, [], hA, _, h => by have := byt_ne (B := A) hA.1; rw [h] at this; simp [byt] at this
  | p :: A, q :: B, hA, hB, h => by
    have e0 := byt_ne (B := A) hA.1
    rw [h, byt_ne hB.1] at e0
    simp only [Option.some.injEq, Prod.mk.injEq] at e0
    have h1 := pk_le hA h e0.1.symm e0.2.symm
    have h2 := pk_le hB h.symm e0.1 e0.2
    have e : p = q := Sp.ext' e0.1.symm e0.2.symm (by omega)
    subst e
    rw [byt_cons, byt_cons] at h
    rw [pk_eq A B hA.2.2 hB.2.2 (List.append_cancel_left h)]

theorem packL_again {L : List Sp} (h : okL L = true) : packL (packL L) = packL L :=
  pk_eq _ _ (pk_packL (packL_ok h)) (pk_packL h) (byt_packL (packL_ok h))

/-- Len of all spans -/
def sumL : List Sp → Int
  | [] => 0
  | p :: L => p.l + sumL L
theorem sumL_append (A B : List Sp) : sumL (A ++ B) = sumL A + sumL B := by
  induction A with
  | nil => simp [sumL]
  | cons p A ih => simp [sumL, ih]; omega
theorem sumL_take {L : List Sp} {j : Nat} {p : Sp} (h : L[j]? = some p) : sumL (L.take (j + 1)) = sumL (L.take j) + p.l := by
  obtain ⟨h1, h2⟩ := List.getElem?_eq_some_iff.1 h
  rw [List.take_succ_eq_append_getElem h1, sumL_append, h2]; simp [sumL]
theorem byt_length {L : List Sp} (h : okL L = true) : ((byt L).length : Int) = sumL L := by
  induction L with
  | nil => rfl
  | cons p L ih =>
    have h3 : rgt p = true ∧ okL L = true := by simpa [okL] using h
    rw [byt_cons, List.length_append, byt1_length, sumL, ← ih h3.2]
    have := ((rgt_iff p).1 h3.1).2.2.1
    omega
theorem sumL_bounds {L : List Sp} (h : okL L = true) : 0 ≤ sumL L ∧ sumL L ≤ L.length * 2147483647 := by
  induction L with
  | nil => simp [sumL]
  | cons p L ih =>
    have h3 : rgt p = true ∧ okL L = true := by simpa [okL] using h
    have := ih h3.2
    have := (rgt_iff p).1 h3.1
    simp only [sumL, List.length_cons]
    omega

/-- Size's answer -/
def sizeW (L : List Sp) : Int := if okL L = true then IntKind.i64.wrap (sumL L) else 0

/-- what of a span that begins at the byte 'at' lies between the bytes a and b -/
def one (a b at' : Int) (p : Sp) : List Sp :=
  if max a' 0 < min b' p.l then [⟨p.s, p.o + max a' 0, min b' p.l - max a' 0⟩] else []
  where
    a' := IntKind.i64.wrap (a - at')
    b' := IntKind.i64.wrap (b - at')
def stp (a b : Int) (st : List Sp × Int) (p : Sp) : List Sp × Int := (st.1 ++ one a b st.2 p, IntKind.i64.wrap (st.2 + p.l))
def betW (a b : Int) (L : List Sp) : List Sp := (L.foldl (stp a b) ([], 0)).1

/-- the same, in whole numbers -/
def one0 (a b at' : Int) (p : Sp) : List Sp :=
  if max (a - at') 0 < min (b - at') p.l then [⟨p.s, p.o + max (a - at') 0, min (b - at') p.l - max (a - at') 0⟩] else []
def betL (a b : Int) : Int → List Sp → List Sp
  | _, [] => []
  | at', p :: L => one0 a b at' p ++ betL a b (at' + p.l) L
end Go.Proofs.Ytjjgloioppjcaaa
