/- The text that pieces spell over a buffer's two lists of bytes: cutting and joining pieces keeps it. -/
import Derived.Test.YtpifjghhlcjedaaSht
import Derived.Test.YtpifjghhlcjedaaFindB
import Derived.Test.YtpifjghhlcjedaaFindL
import Derived.Test.YtpifjghhlcjedaaAbByte
namespace Go.Proofs.Ytpifjghhlcjedaa
open Go.RowKit

/-- The bytes of a piece. -/
def pcs (O A : List UInt8) (p : Pc) : List UInt8 := Ab.cutL p.s p.o p.l O A
/-- The bytes of pieces in a row. -/
def txt (O A : List UInt8) (L : List Pc) : List UInt8 := L.flatMap (pcs O A)

/-- A good piece: fit, held by the buffer, its line ends counted. -/
structure Gd (O A : List UInt8) (p : Pc) : Prop where
  fit : p.fit
  hold : Ab.hdB p.s p.o p.l O A = true
  ln : p.n = (Ab.nl (pcs O A p) : Int)
def Gds (O A : List UInt8) (L : List Pc) : Prop := ∀ p ∈ L, Gd O A p

theorem txt_nil (O A : List UInt8) : txt O A [] = [] := rfl
theorem txt_cons (O A : List UInt8) (p : Pc) (L : List Pc) : txt O A (p :: L) = pcs O A p ++ txt O A L := by simp [txt]
theorem txt_append (O A : List UInt8) (L M : List Pc) : txt O A (L ++ M) = txt O A L ++ txt O A M := by simp [txt]
theorem Gds.nil (O A : List UInt8) : Gds O A [] := fun _ h => by cases h
theorem Gds.cons {O A : List UInt8} {p : Pc} {L : List Pc} (h : Gd O A p) (k : Gds O A L) : Gds O A (p :: L) := fun q hq => by
  rcases List.mem_cons.1 hq with rfl | hq
  · exact h
  · exact k q hq
theorem Gds.append {O A : List UInt8} {L M : List Pc} (h : Gds O A L) (k : Gds O A M) : Gds O A (L ++ M) := fun q hq => by
  rcases List.mem_append.1 hq with hq | hq
  · exact h q hq
  · exact k q hq
theorem Gds.take {O A : List UInt8} {L : List Pc} (h : Gds O A L) (k : Nat) : Gds O A (L.take k) := fun q hq => h q (List.mem_of_mem_take hq)
theorem Gds.drop {O A : List UInt8} {L : List Pc} (h : Gds O A L) (k : Nat) : Gds O A (L.drop k) := fun q hq => h q (List.mem_of_mem_drop hq)
theorem Gds.at {O A : List UInt8} {L : List Pc} (h : Gds O A L) {k : Nat} {p : Pc} (hp : L[k]? = some p) : Gd O A p := h p (List.mem_of_getElem? hp)

theorem cutL_len {s o l : Int} {O A : List UInt8} (h : Ab.hdB s o l O A = true) : ((Ab.cutL s o l O A).length : Int) = l := by
  obtain ⟨o', l', rfl, rfl, _, h2, _⟩ := Ab.hd_parts h
  rw [Ab.cutL_length h2]
theorem Gd.len {O A : List UInt8} {p : Pc} (h : Gd O A p) : ((pcs O A p).length : Int) = p.l := cutL_len h.hold
theorem Gd.pos {O A : List UInt8} {p : Pc} (h : Gd O A p) : 1 ≤ p.l := h.fit.1

theorem txt_len {O A : List UInt8} : ∀ {L : List Pc}, Gds O A L → ((txt O A L).length : Int) = sB L
  | [], _ => rfl
  | p :: L, h => by
    rw [txt_cons, sB_cons, List.length_append]
    have h1 := (h p (by simp)).len
    have h2 := txt_len (L := L) (fun q hq => h q (by simp [hq]))
    push_cast
    omega
theorem nl_append (a b : List UInt8) : Ab.nl (a ++ b) = Ab.nl a + Ab.nl b := by simp [Ab.nl]
theorem txt_nl {O A : List UInt8} : ∀ {L : List Pc}, Gds O A L → ((Ab.nl (txt O A L) : Nat) : Int) = sL L
  | [], _ => rfl
  | p :: L, h => by
    rw [txt_cons, nl_append]
    have h1 := (h p (by simp)).ln
    have h2 := txt_nl (L := L) (fun q hq => h q (by simp [hq]))
    have e : sL (p :: L) = p.n + sL L := by simp [sL]
    rw [e]
    push_cast
    omega

/-- As many pieces as bytes at most. -/
theorem len_le_txt {O A : List UInt8} : ∀ {L : List Pc}, Gds O A L → L.length ≤ (txt O A L).length
  | [], _ => by simp
  | p :: L, h => by
    rw [txt_cons, List.length_append, List.length_cons]
    have h1 := (h p (by simp)).len
    have h3 := (h p (by simp)).pos
    have h2 := len_le_txt (L := L) (fun q hq => h q (by simp [hq]))
    omega
theorem Gds.fine {O A : List UInt8} {L : List Pc} (h : Gds O A L) (hz : (txt O A L).length ≤ 1048576) : fineL L := ⟨fun p hp => (h p hp).fit, by have := len_le_txt h; omega⟩

/-- More bytes added change nothing. -/
theorem which_app {s : Int} (O A B : List UInt8) {o l : Nat} (h : o + l ≤ (Ab.which s O A).length) : ((Ab.which s O (A ++ B)).drop o).take l = ((Ab.which s O A).drop o).take l ∧ o + l ≤ (Ab.which s O (A ++ B)).length := by
  unfold Ab.which at h ⊢
  by_cases h0 : s = 0
  · simp only [h0, if_true] at h ⊢
    exact ⟨trivial, h⟩
  · by_cases h1 : s = 1
    · subst h1
      simp only [show ¬ ((1 : Int) = 0) by decide, if_false, if_true] at h ⊢
      rw [List.drop_append_of_le_length (by omega), List.take_append_of_le_length (by rw [List.length_drop]; omega)]
      exact ⟨rfl, by simp; omega⟩
    · simp only [h0, h1, if_false] at h ⊢
      exact ⟨trivial, h⟩
theorem Gd.more {O A : List UInt8} {p : Pc} (h : Gd O A p) (B : List UInt8) : Gd O (A ++ B) p ∧ pcs O (A ++ B) p = pcs O A p := by
  obtain ⟨s, o, l, n⟩ := p
  have hh := h.hold
  obtain ⟨o', l', e1, e2, h1, h2, h3⟩ := Ab.hd_parts hh
  simp only at e1 e2
  subst e1 e2
  obtain ⟨g1, g2⟩ := which_app O A B h2
  have e : pcs O (A ++ B) ⟨s, o', l', n⟩ = pcs O A ⟨s, o', l', n⟩ := by simpa [pcs, Ab.cutL] using g1
  exact ⟨⟨h.fit, Ab.hd_true h1 g2, by rw [e]; exact h.ln⟩, e⟩
theorem Gds.more {O A : List UInt8} {L : List Pc} (h : Gds O A L) (B : List UInt8) : Gds O (A ++ B) L := fun p hp => ((h p hp).more B).1
theorem txt_more {O A : List UInt8} : ∀ {L : List Pc}, Gds O A L → ∀ (B : List UInt8), txt O (A ++ B) L = txt O A L
  | [], _, _ => rfl
  | p :: L, h, B => by rw [txt_cons, txt_cons, ((h p (by simp)).more B).2, txt_more (L := L) (fun q hq => h q (by simp [hq])) B]

/-- A piece cut in two. -/
def fstP (O A : List UInt8) (p : Pc) (i : Int) : Pc := ⟨p.s, p.o, i, (Ab.nl (Ab.cutL p.s p.o i O A) : Nat)⟩
def sndP (O A : List UInt8) (p : Pc) (i : Int) : Pc := ⟨p.s, p.o + i, p.l - i, p.n - (Ab.nl (Ab.cutL p.s p.o i O A) : Nat)⟩
theorem snd_true {s o l : Int} (h : (s = 0 ∨ s = 1) ∧ 0 ≤ o ∧ 0 ≤ l ∧ o + l ≤ 4611686018427387904) : Ab.sndB s o l = true := by simpa [Ab.sndB] using h
theorem snd_out {s o l : Int} (h : Ab.sndB s o l = true) : (s = 0 ∨ s = 1) ∧ 0 ≤ o ∧ 0 ≤ l ∧ o + l ≤ 4611686018427387904 := by simpa [Ab.sndB] using h
theorem cut_good {O A : List UInt8} {p : Pc} (h : Gd O A p) {i : Int} (h0 : 0 < i) (h1 : i < p.l) : Gd O A (fstP O A p i) ∧ Gd O A (sndP O A p i) ∧ pcs O A (fstP O A p i) ++ pcs O A (sndP O A p i) = pcs O A p ∧ Ab.hdB p.s p.o i O A = true ∧ pcs O A (fstP O A p i) = (pcs O A p).take i.toNat := by
  obtain ⟨s, o, l, n⟩ := p
  have hh := h.hold
  obtain ⟨o', l', e1, e2, k1, k2, k3⟩ := Ab.hd_parts hh
  simp only at e1 e2 h1
  subst e1 e2
  obtain ⟨i', rfl⟩ : ∃ i' : Nat, i = i' := ⟨i.toNat, by omega⟩
  have hi : i' < l' := by omega
  have k4 : o' + l' ≤ (Ab.which s O A).length := k2
  obtain ⟨q1, q2, q3, q4⟩ := snd_out k1
  have s1 : Ab.sndB s o' i' = true := snd_true ⟨q1, q2, by omega, by omega⟩
  have s2 : Ab.sndB s ((o' + i' : Nat) : Int) ((l' - i' : Nat) : Int) = true := snd_true ⟨q1, by omega, by omega, by omega⟩
  have e1 : ((o' : Int) + (i' : Int)) = ((o' + i' : Nat) : Int) := by push_cast; rfl
  have e2 : ((l' : Int) - (i' : Int)) = ((l' - i' : Nat) : Int) := by omega
  have f1 : pcs O A (fstP O A ⟨s, o', l', n⟩ i') = ((Ab.which s O A).drop o').take i' := by simp [pcs, fstP, Ab.cutL]
  have f2 : pcs O A (sndP O A ⟨s, o', l', n⟩ i') = ((Ab.which s O A).drop (o' + i')).take (l' - i') := by
    simp only [pcs, sndP, Ab.cutL, e1, e2, Int.toNat_natCast]
  have f3 : pcs O A ⟨s, o', l', n⟩ = ((Ab.which s O A).drop o').take l' := by simp [pcs, Ab.cutL]
  have f4 : ((Ab.which s O A).drop o').take i' ++ ((Ab.which s O A).drop (o' + i')).take (l' - i') = ((Ab.which s O A).drop o').take l' := by
    rw [← List.drop_drop]
    conv => rhs; rw [show l' = i' + (l' - i') by omega, List.take_add]
  have hf := h.fit
  simp only [Pc.fit] at hf
  have hn := h.ln
  rw [f3, ← f4, nl_append, ← f1] at hn
  simp only at hn
  have l1 : (pcs O A (fstP O A ⟨s, o', l', n⟩ i')).length = i' := by rw [f1, List.length_take, List.length_drop]; omega
  have l2 : (((Ab.which s O A).drop (o' + i')).take (l' - i')).length = l' - i' := by rw [List.length_take, List.length_drop]; omega
  have n1 := Ab.nl_le (pcs O A (fstP O A ⟨s, o', l', n⟩ i'))
  have n2 := Ab.nl_le (((Ab.which s O A).drop (o' + i')).take (l' - i'))
  refine ⟨⟨?_, Ab.hd_true s1 (show o' + i' ≤ (Ab.which s O A).length by omega), rfl⟩, ⟨?_, ?_, ?_⟩, by rw [f1, f2, f3, f4], Ab.hd_true s1 (by omega), ?_⟩
  · show (1 : Int) ≤ i' ∧ (i' : Int) ≤ 2147483647 ∧ (0 : Int) ≤ (Ab.nl (pcs O A (fstP O A ⟨s, o', l', n⟩ i')) : Nat) ∧ ((Ab.nl (pcs O A (fstP O A ⟨s, o', l', n⟩ i')) : Nat) : Int) ≤ i'
    omega
  · show (1 : Int) ≤ l' - i' ∧ (l' - i' : Int) ≤ 2147483647 ∧ (0 : Int) ≤ n - (Ab.nl (pcs O A (fstP O A ⟨s, o', l', n⟩ i')) : Nat) ∧ n - ((Ab.nl (pcs O A (fstP O A ⟨s, o', l', n⟩ i')) : Nat) : Int) ≤ l' - i'
    omega
  · show Ab.hdB s (o' + i') (l' - i') O A = true
    rw [e1, e2]
    exact Ab.hd_true s2 (by omega)
  · rw [f2]
    show n - (Ab.nl (pcs O A (fstP O A ⟨s, o', l', n⟩ i')) : Nat) = _
    omega
  · rw [f1, f3, List.take_take]
    congr 1
    simp
    omega

/-- Two pieces that join. -/
def bothP (p q : Pc) : Pc := ⟨p.s, p.o, p.l + q.l, p.n + q.n⟩
theorem both_good {O A : List UInt8} {p q : Pc} (hp : Gd O A p) (hq : Gd O A q) (hj : Ab.jnB p.s p.o p.l q.s q.o q.l = true) (hz : p.l + q.l ≤ 2147483647) : Gd O A (bothP p q) ∧ pcs O A (bothP p q) = pcs O A p ++ pcs O A q := by
  obtain ⟨s, o, l, n⟩ := p
  obtain ⟨s', o2, l2, n2⟩ := q
  obtain ⟨j1, j2, j3, j4⟩ := Ab.jn_parts hj
  simp only at j1 j2 j3 j4 hz
  subst j3
  obtain ⟨o', l', e1, e2, k1, k2, k3⟩ := Ab.hd_parts hp.hold
  obtain ⟨o2', l2', e3, e4, m1, m2, m3⟩ := Ab.hd_parts hq.hold
  simp only at e1 e2 e3 e4
  subst e1 e2 e3 e4
  have e5 : o2' = o' + l' := by omega
  subst e5
  have k4 : o' + l' + l2' ≤ (Ab.which s O A).length := m2
  have e6 : ((l' : Int) + (l2' : Int)) = ((l' + l2' : Nat) : Int) := by push_cast; rfl
  have e : pcs O A (bothP ⟨s, o', l', n⟩ ⟨s, (o' + l' : Nat), l2', n2⟩) = pcs O A ⟨s, o', l', n⟩ ++ pcs O A ⟨s, (o' + l' : Nat), l2', n2⟩ := by
    simp only [pcs, bothP, Ab.cutL, e6, Int.toNat_natCast]
    rw [← List.drop_drop, List.take_add]
  obtain ⟨q1, q2, q3, q4⟩ := snd_out k1
  obtain ⟨p1, p2, p3, p4⟩ := snd_out m1
  have hf := hp.fit
  have hg := hq.fit
  simp only [Pc.fit] at hf hg
  refine ⟨⟨?_, ?_, ?_⟩, e⟩
  · show (1 : Int) ≤ l' + l2' ∧ (l' + l2' : Int) ≤ 2147483647 ∧ 0 ≤ n + n2 ∧ n + n2 ≤ l' + l2'
    omega
  · show Ab.hdB s o' (l' + l2') O A = true
    rw [e6]
    exact Ab.hd_true (snd_true ⟨q1, q2, by omega, by push_cast at p4 ⊢; omega⟩) (by omega)
  · rw [e, nl_append]
    have a := hp.ln
    have b := hq.ln
    show n + n2 = _
    rw [Int.natCast_add, ← a, ← b]

end Go.Proofs.Ytpifjghhlcjedaa
