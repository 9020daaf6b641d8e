/- What is put into a new sheet and taken out again leaves its spans as they were. -/
import Derived.Test.YtpifjghhlcjedaaOut
import Derived.Test.YtpifjghhlcjedaaAwp
namespace Go.Proofs.Ytpifjghhlcjedaa
open Go.RowKit

/-- A span of a piece. -/
def span (p : Pc) : Int × Int × Int := (p.s, p.o, p.l)

theorem new_list {l : List UInt8} {t : Tr} (h : NewR l t) : t.list = if l = [] then [] else [⟨0, 0, l.length, Ab.nl l⟩] := by
  rcases h with ⟨rfl, rfl⟩ | ⟨hl, rfl⟩
  · rw [Tr.gluT_list]; rfl
  · rw [Tr.joinT_list, if_neg hl]; rfl

theorem sB_nil : sB [] = 0 := rfl
theorem sB_one (p : Pc) : sB [p] = p.l := by simp [sB]
theorem sB_two (p q : Pc) : sB [p, q] = p.l + q.l := by simp [sB]

/-- A cut where a list of pieces parts. -/
theorem cut_between {O A : List UInt8} {t T U : Tr} {L M : List Pc} {off : Int} (h : CutR O A t off T U) (hl : t.list = L ++ M) (hg : Gds O A t.list) (ho : off = sB L) : T.list = L ∧ U.list = M := by
  have pos : ∀ {K : List Pc}, (∀ p ∈ K, 1 ≤ p.l) → K ≠ [] → 0 < sB K := fun {K} hK hne => by
    obtain ⟨q, qs, rfl⟩ := List.exists_cons_of_ne_nil hne
    have h1 := hK q (by simp)
    have h2 : ∀ (qs : List Pc), (∀ p ∈ qs, 1 ≤ p.l) → 0 ≤ sB qs := fun qs => by
      induction qs with
      | nil => intro _; simp [sB]
      | cons a l ih => intro h; rw [sB_cons]; have := h a (by simp); have := ih (fun p hp => h p (by simp [hp])); omega
    have := h2 qs (fun p hp => hK p (by simp [hp]))
    rw [sB_cons]
    omega
  have nonneg : ∀ {K : List Pc}, (∀ p ∈ K, 1 ≤ p.l) → 0 ≤ sB K := fun {K} hK => by
    by_cases hne : K = []
    · rw [hne]; simp [sB]
    · have := pos hK hne; omega
  have hall : ∀ p ∈ t.list, 1 ≤ p.l := fun p hp => (hg p hp).pos
  have hL : ∀ p ∈ L, 1 ≤ p.l := fun p hp => hall p (by rw [hl]; simp [hp])
  have hM : ∀ p ∈ M, 1 ≤ p.l := fun p hp => hall p (by rw [hl]; simp [hp])
  have hb : t.byt = sB L + sB M := by rw [byt_list, hl, sB_append]
  rcases h with ⟨h0, rfl, rfl⟩ | ⟨h0, h1, rfl, rfl⟩ | ⟨j, x, p, h1, h2, hp, hx0, hx1, hq, hc⟩
  · have : L = [] := by
      by_cases hne : L = []
      · exact hne
      · have := pos hL hne; omega
    subst this
    exact ⟨rfl, by rw [hl]; rfl⟩
  · have : M = [] := by
      by_cases hne : M = []
      · exact hne
      · have := pos hM hne; omega
    subst this
    exact ⟨by rw [hl]; simp, rfl⟩
  · have hjlt := (List.getElem?_eq_some_iff.1 hp).1
    have hj : j = L.length := by
      rcases Nat.lt_trichotomy j L.length with hlt | he | hgt
      · exfalso
        have e1 : t.list.take j = L.take j := by rw [hl, List.take_append_of_le_length (by omega)]
        have e2 : L = L.take j ++ p :: L.drop (j + 1) := by
          have hp' : L[j]? = some p := by rw [hl, List.getElem?_append_left hlt] at hp; exact hp
          conv => lhs; rw [← List.take_append_drop j L]
          rw [List.drop_eq_getElem_cons hlt]
          obtain ⟨_, e⟩ := List.getElem?_eq_some_iff.1 hp'
          rw [e]
        have e3 : sB L = sB (L.take j) + (p.l + sB (L.drop (j + 1))) := by conv => lhs; rw [e2]; rw [sB_append, sB_cons]
        have e4 := nonneg (K := L.drop (j + 1)) (fun q hq => hL q (List.mem_of_mem_drop hq))
        rw [e1] at hq
        omega
      · exact he
      · exfalso
        have e1 : t.list.take j = L ++ M.take (j - L.length) := by rw [hl, List.take_append, List.take_of_length_le (by omega)]
        have e2 : M.take (j - L.length) ≠ [] := by
          intro h
          have := congrArg List.length h
          rw [List.length_take] at this
          rw [hl, List.length_append] at hjlt
          have := List.length_nil (α := Pc)
          omega
        have e3 := pos (K := M.take (j - L.length)) (fun q hq => hM q (List.mem_of_mem_take hq)) e2
        rw [e1, sB_append] at hq
        omega
    subst hj
    rw [hl, List.take_left] at hq
    have hx : x = 0 := by omega
    rcases hc with ⟨_, rfl, rfl⟩ | ⟨h, _⟩
    · exact ⟨by rw [(Tr.splitT_list t L.length).1, hl, List.take_left], by rw [(Tr.splitT_list t L.length).2, hl, List.drop_left]⟩
    · omega

/-- The pieces behind an insertion into a new sheet. -/
theorem put_shape {text l : List UInt8} {t0 t1 : Tr} {off : Int} (h0 : NewR text t0) (h1 : PutR text [] l t0 off t1) (hz : text.length ≤ 1048576) (_ho : 0 ≤ off) (hb : off ≤ t0.byt) :
    ∃ La Lb : List Pc, t1.list = La ++ newP [] l :: Lb ∧ sB La = off ∧ (La ++ Lb = t0.list ∨ ∃ a b w : Pc, La = [a] ∧ Lb = [b] ∧ t0.list = [w] ∧ span (bothP a b) = span w ∧ Ab.jnB a.s a.o a.l b.s b.o b.l = true) := by
  obtain ⟨T, U, T', q, bb, hc, hj, rfl⟩ := h1
  obtain ⟨n1, n2, n3, n4⟩ := h0.ok hz
  have hlist := new_list h0
  have hs0 : ∀ p ∈ t0.list, p.s = 0 := fun p hp => by
    rw [hlist] at hp
    split at hp
    · cases hp
    · simp at hp; rw [hp]
  -- the tree ahead holds pieces of the original alone
  have hT : ∀ p ∈ T.list, p.s = 0 := by
    rcases hc with ⟨_, rfl, rfl⟩ | ⟨_, _, rfl, rfl⟩ | ⟨j, x, p, _, _, hp, _, _, _, ⟨_, rfl, rfl⟩ | ⟨_, rfl, rfl⟩⟩
    · intro p hp; cases hp
    · exact hs0
    · intro p hp; rw [(Tr.splitT_list t0 j).1] at hp; exact hs0 p (List.mem_of_mem_take hp)
    · intro r hr
      rw [Tr.joinT_list, (Tr.splitT_list t0 j).1] at hr
      rcases List.mem_append.1 hr with hr | hr
      · exact hs0 r (List.mem_of_mem_take hr)
      · rcases List.mem_cons.1 hr with rfl | hr
        · exact hs0 p (List.mem_of_getElem? hp)
        · cases hr
  rcases hj with ⟨_, rfl, rfl, _⟩ | ⟨_, m, r, hm, hr, hjn, _, _⟩
  · refine ⟨T'.list, U.list, Tr.joinT_list _ _ _, ?_⟩
    rcases hc with ⟨e0, rfl, rfl⟩ | ⟨_, e0, rfl, rfl⟩ | ⟨j, x, p, e1, e2, hp, hx0, hx1, hq, hcc⟩
    · exact ⟨by rw [e0]; rfl, .inl rfl⟩
    · exact ⟨by rw [e0, byt_list], .inl (by simp [Tr.list])⟩
    · have hne : text ≠ [] := by
        rintro rfl
        rw [hlist] at hp
        simp at hp
      rw [if_neg hne] at hlist
      have hj0 : j = 0 := by
        rcases Nat.eq_zero_or_pos j with h | h
        · exact h
        · rw [hlist, List.getElem?_eq_none (by simp; omega)] at hp; cases hp
      subst hj0
      have hpw : p = ⟨0, 0, text.length, Ab.nl text⟩ := by rw [hlist] at hp; simpa using hp.symm
      have hxo : x = off := by rw [List.take_zero, sB_nil] at hq; omega
      rcases hcc with ⟨h, _⟩ | ⟨hx, rfl, rfl⟩
      · omega
      · have l1 : (Tr.joinT (Tr.splitT t0 0).1 (fstP text [] p x) (Tr.mk none)).list = [fstP text [] p x] := by rw [Tr.joinT_list, (Tr.splitT_list t0 0).1]; rfl
        have l2 : (Tr.joinT (Tr.mk none) (sndP text [] p x) (Tr.splitT t0 (0 + 1)).2).list = [sndP text [] p x] := by rw [Tr.joinT_list, (Tr.splitT_list t0 (0 + 1)).2, hlist]; rfl
        refine ⟨by rw [l1, sB_one]; exact hxo, .inr ⟨_, _, _, l1, l2, hlist, ?_, ?_⟩⟩
        · rw [hpw]; simp [span, bothP, fstP, sndP]; omega
        · have hpl : p.l = text.length := by rw [hpw]
          have c1 : Ab.sndB 0 0 x = true := snd_true ⟨.inl rfl, by omega, by omega, by omega⟩
          have c2 : Ab.sndB 0 (0 + x) ((text.length : Int) - x) = true := snd_true ⟨.inl rfl, by omega, by omega, by omega⟩
          rw [hpw]
          simp only [fstP, sndP, Ab.jnB]
          rw [c1, c2]
          simp
  · exfalso
    have hh := hT r (List.mem_of_getElem? hr)
    have := (Ab.jn_parts hjn).2.2.1
    rw [hh] at this
    simp [newP] at this

/-- What is put into a new sheet and taken out again leaves its spans. -/
theorem back_spans {text l : List UInt8} {t0 t1 t2 : Tr} {off : Int} (h0 : NewR text t0) (h1 : PutR text [] l t0 off t1) (h2 : OutR text ([] ++ l) t1 off (off + l.length) t2) (hg : Gds text ([] ++ l) t1.list) (hw : t1.whole) (hz : text.length ≤ 1048576) (ho : 0 ≤ off) (hb : off ≤ t0.byt) :
    t2.list.map span = t0.list.map span := by
  obtain ⟨La, Lb, e1, e2, e3⟩ := put_shape h0 h1 hz ho hb
  obtain ⟨T, U, T1, U1, hc, hd, hm⟩ := h2
  have hsp : t1.list = (La ++ [newP [] l]) ++ Lb := by rw [e1]; simp
  obtain ⟨a1, a2⟩ := cut_between hc hsp hg (by rw [sB_append, sB_one, e2]; rfl)
  obtain ⟨c1, c2, c3, c4, _, _, _⟩ := hc.ok hw hg
  obtain ⟨b1, b2⟩ := cut_between hd a1 c3 e2.symm
  have hlist := new_list h0
  have hlen : t0.list.length ≤ 1 := by rw [hlist]; split <;> simp
  have hU : U.list = Lb := a2
  have zU := U.size_list
  rw [hU] at zU
  have zT := T1.size_list
  rw [b1] at zT
  rcases hm with ⟨hz0, rfl⟩ | ⟨p, Tj, q, b, hp, hj, ⟨rfl, rfl⟩ | ⟨rfl, rfl⟩⟩
  · rw [Tr.gluT_list, b1, hU]
    rcases e3 with e3 | ⟨a, b, w, _, e4, _⟩
    · rw [e3]
    · rw [e4] at zU; simp at zU; omega
  · rw [Tr.gluT_list, b1, hU]
    rcases e3 with e3 | ⟨a, b, w, e4, e5, e6, e7, e8⟩
    · rw [e3]
    · exfalso
      rcases hj with ⟨_, _, _, hno⟩ | ⟨h, _⟩
      · rw [hU, e5] at hp
        have hpb : p = b := by simpa using hp.symm
        rw [e4] at zT
        have := hno 0 a (by simp at zT; omega) (by rw [b1, e4]; rfl)
        rw [hpb, e8] at this
        cases this
      · cases h
  · rw [Tr.joinT_list, (Tr.splitT_list U 1).2, hU]
    rcases hj with ⟨h, _⟩ | ⟨_, m, r, hm, hr, hjn, rfl, rfl⟩
    · cases h
    · rw [(Tr.splitT_list T1 m).1, b1]
      rw [b1] at hr
      rw [hU] at hp
      rcases e3 with e3 | ⟨a, b, w, e4, e5, e6, e7, e8⟩
      · exfalso
        have x1 := (List.getElem?_eq_some_iff.1 hr).1
        have x2 := (List.getElem?_eq_some_iff.1 hp).1
        rw [← e3, List.length_append] at hlen
        omega
      · subst e4 e5
        have hm0 : m = 0 := by simp at zT; omega
        subst hm0
        have ha : r = a := by simpa using hr.symm
        have hb' : p = b := by simpa using hp.symm
        rw [e6, ha, hb']
        simpa using e7

end Go.Proofs.Ytpifjghhlcjedaa
