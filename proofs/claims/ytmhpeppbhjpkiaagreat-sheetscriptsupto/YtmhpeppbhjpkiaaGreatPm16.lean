/- A new sheet. -/
import Derived.Test.YtmhpeppbhjpkiaaGreatPm14
import Derived.Test.YtmhpeppbhjpkiaaGreatPm15
namespace Go.Proofs.YtmhpeppbhjpkiaaGreat
open Go.RowKit

/-- The tree of a new sheet. -/
def NewR (l : List UInt8) (t : Tr) : Prop := (l = [] ∧ t = Tr.gluT (Tr.mk none) (Tr.mk none)) ∨ (l ≠ [] ∧ t = Tr.joinT (Tr.mk none) ⟨0, 0, l.length, Ab.nl l⟩ (Tr.mk none))

theorem NewR.ok {l : List UInt8} {t : Tr} (h : NewR l t) (hz : l.length ≤ 1048576) : t.whole ∧ Gds l [] t.list ∧ txt l [] t.list = l ∧ t.list.length ≤ 1 := by
  rcases h with ⟨rfl, rfl⟩ | ⟨hl, rfl⟩
  · have e := Tr.gluT_list (Tr.mk none) (Tr.mk none)
    simp only [Tr.list, List.append_nil] at e
    exact ⟨Tr.gluT_whole nil_whole nil_whole, by rw [e]; exact Gds.nil _ _, by rw [e]; rfl, by rw [e]; simp⟩
  · have e := Tr.joinT_list (Tr.mk none) ⟨0, 0, l.length, Ab.nl l⟩ (Tr.mk none)
    simp only [Tr.list, List.nil_append] at e
    have ep : pcs l [] ⟨0, 0, l.length, Ab.nl l⟩ = l := by simp [pcs, Ab.cutL, Ab.which]
    have h1 : 0 < l.length := List.length_pos_iff.2 hl
    have h2 := Ab.nl_le l
    have g : Gd l [] ⟨0, 0, l.length, Ab.nl l⟩ := by
      refine ⟨?_, ?_, by rw [ep]⟩
      · show (1 : Int) ≤ l.length ∧ (l.length : Int) ≤ 2147483647 ∧ (0 : Int) ≤ Ab.nl l ∧ (Ab.nl l : Int) ≤ l.length
        omega
      · exact Ab.hd_true (o := 0) (l := l.length) (snd_true ⟨.inl rfl, by omega, by omega, by omega⟩) (show 0 + l.length ≤ (Ab.which 0 l []).length by simp [Ab.which])
    exact ⟨Tr.joinT_whole _ nil_whole nil_whole, by rw [e]; exact Gds.cons g (Gds.nil _ _), by rw [e, txt_cons, ep]; simp [txt_nil], by rw [e]; simp⟩

set_option maxHeartbeats 2000000 in
theorem New_any (ao : Option Addr) (c : Nat) (l : List UInt8) (w : World) (hz : l.length ≤ 1048576) (h : Hid (Ab.Rd w (.slice ao l.length c) l)) :
    Calls Tryz.prog 6 #[.slice ao l.length c] w fun e w' => ∃ sb bb vo a t, e = .returned (.pointer (some ⟨sb, 0, none⟩)) ∧ Sh w' w.heap.size sb bb vo (.slice none 0 0) l [] t a 0 ∧ NewR l t ∧ Below w.heap.size w w' := by
  have hnl := Ab.nl_le l
  have hpc := hid (fun W sb bb x y (hW : ShB W w.heap.size sb bb x y l []) => piece_yes sb bb x y l [] w.heap.size 0 0 l.length W (snd_true ⟨.inl rfl, by omega, by omega, by omega⟩) (by simp [Ab.which]) hW)
  rw [show Ab.cutL 0 ((0 : Nat) : Int) (l.length : Int) l [] = l by simp [Ab.cutL, Ab.which]] at hpc
  have hjn : Hid (∀ W, Calls Tryz.prog 20 #[.agg #[.pointer none], .agg #[.int .i64 0, .int .i64 0, .int .i64 (l.length : Int), .int .i64 (Ab.nl l : Nat)], .agg #[.pointer none]] W fun e w' => ∃ x t, e = .returned (.agg #[.pointer x]) ∧ NewR l t ∧ At w' t x ∧ Below W.heap.size W w') := fun W => by
    by_cases hl : l = []
    · refine (Join_glue (Tr.mk none) (Tr.mk none) none none 0 0 l.length (Ab.nl l : Nat) W (by rw [hl]; decide) (hid ⟨fun p hp => by simp [Tr.list] at hp, by simp [Tr.list]⟩) nil_whole nil_whole rfl rfl).mono ?_
      rintro e w' ⟨x, h1, h2, h3⟩
      exact ⟨x, _, h1, .inl ⟨hl, rfl⟩, h2, h3⟩
    · have h1 : 0 < l.length := List.length_pos_iff.2 hl
      have hf : fitB l.length (Ab.nl l : Nat) = true := by simp [fitB]; omega
      refine (Join_fit (Tr.mk none) (Tr.mk none) none none 0 0 l.length (Ab.nl l : Nat) W hf (hid ⟨fun p hp => ?_, by simp [Tr.list]⟩) nil_whole nil_whole rfl rfl).mono ?_
      · simp [Tr.list] at hp
        subst hp
        simpa [fitB, Pc.fit] using hf
      rintro e w' ⟨x, h1, h2, h3⟩
      exact ⟨x, _, h1, .inr ⟨hl, rfl⟩, h2, h3⟩
  go_enter Tryz.func6, Tryz.ntmps6
  go_wp2_with (first
    | (go_at_call 18; refine (Ab.new_any _ l _ (by omega) h).mono ?_; rintro e w9 ⟨bb, vo, rfl, hB9, hb9⟩; have B9 := hid hB9; have S9 := hid (World.alloc_heap_new w9 (.cells #[.pointer (some ⟨bb, 0, none⟩), .pointer none, .int .i64 0] 55)); clear hB9)
    | (go_at_call 19; refine (hpc.out _ w9.heap.size (some ⟨bb, 0, none⟩) (.pointer none) (.int .i64 0) ⟨S9.out, .inr ⟨bb, vo, _, rfl, B9.out.alloc _⟩⟩).mono ?_; rintro e w8 ⟨rfl, hb8⟩; have S8 := hid ((hb8.block _ (sh_lt S9.out)).trans S9.out); have B8 := hid ((B9.out.alloc _).keep hb8); have hw8 := (bAlloc hb9 _).trans (hb8.mono (bAlloc hb9 _).size))
    | (go_at_call 20; refine (hjn.out _).mono ?_; rintro e w7 ⟨x7, t7, rfl, hn7, hx7, hb7⟩; have S7 := hid ((hb7.block _ (by have := sh_lt S8.out; simp; omega)).trans ((Below.heap_alloc w8 _ _ (sh_lt S8.out)).trans S8.out)); have B7 := hid ((B8.out.alloc _).keep hb7); obtain ⟨c0, c1, c2, f0, f1, f2⟩ := sh_cells S7.out; have hw7 := (bAlloc hw8 _).trans (hb7.mono (bAlloc hw8 _).size)))
  go_ret
  have s2 : ∀ k, k ≠ w9.heap.size → (w7.setCell ⟨w9.heap.size, 1, none⟩ (.pointer x7)).heap[k]? = w7.heap[k]? := fun k hk => Below.heap_setCell _ _ _ _ hk
  have s1 : (w7.setCell ⟨w9.heap.size, 1, none⟩ (.pointer x7)).heap[w9.heap.size]? = some (.cells #[.pointer (some ⟨bb, 0, none⟩), .pointer x7, .int .i64 0] 55 (0, 0)) := by
    obtain ⟨hlt, hk'⟩ := Array.getElem?_eq_some_iff.1 S7.out
    show (w7.heap.modify w9.heap.size _)[w9.heap.size]? = _
    rw [Array.getElem?_eq_getElem (by rw [Array.size_modify]; exact hlt), Array.getElem_modify_self, hk']
    rfl
  have N : ∀ (k : Nat) (cs : Array Value) (t : Nat), w7.heap[k]? = some (Obj.cells cs t (0, 0)) → t ≠ 55 → (w7.setCell ⟨w9.heap.size, 1, none⟩ (.pointer x7)).heap[k]? = some (.cells cs t (0, 0)) := fun k cs t hk htt =>
    (s2 k (fun e => by subst e; rw [S7.out] at hk; cases hk; exact htt rfl)).trans hk
  have NN : Nods w7 (w7.setCell ⟨w9.heap.size, 1, none⟩ (.pointer x7)) := fun b cs hb => N b cs _ hb (by decide)
  refine ⟨w9.heap.size, bb, vo, x7, t7, rfl, ⟨hb9.size, s1, ⟨B7.out.lo, N _ _ _ B7.out.here (by decide), ?_, ?_, B7.out.apart⟩, NN.at hx7⟩, hn7, bset hw7 hb9.size _ _⟩
  · exact own_same B7.out.orig fun k e hk => s2 k (fun e' => Ab.own_ne B7.out.orig S7.out (by decide) (by rw [e, e']))
  · exact own_same B7.out.added fun k e hk => s2 k (fun e' => Ab.own_ne B7.out.added S7.out (by decide) (by rw [e, e']))

end Go.Proofs.YtmhpeppbhjpkiaaGreat

/- The chapter's first example, in lists: three pieces, and what they spell. -/
namespace Go.Proofs.YtmhpeppbhjpkiaaGreat
open Go.RowKit

def hw : List UInt8 := [104, 101, 108, 108, 111, 32, 119, 111, 114, 108, 100]

theorem hw_new {t : Tr} (h : NewR hw t) : t.list = [⟨0, 0, 11, 0⟩] := by
  rcases h with ⟨h, _⟩ | ⟨_, rfl⟩
  · cases h
  · rw [Tr.joinT_list]
    rfl

theorem hw_one {t t1 : Tr} (ht : t.list = [⟨0, 0, 11, 0⟩]) (h : PutR hw [] [44] t 5 t1) : ∃ a c : Pc, t1.list = [a, newP [] [44], c] ∧ a.l = 5 ∧ c.l = 6 := by
  obtain ⟨T, U, T', q, b, hc, hj, rfl⟩ := h
  have hb : t.byt = 11 := by rw [byt_list, ht]; rfl
  rcases hc with ⟨h0, _⟩ | ⟨_, h0, _⟩ | ⟨j, x, p, h1, h2, hp, hx0, hx1, ho, hc⟩
  · omega
  · omega
  · rw [ht] at hp ho
    have hj0 : j = 0 := by
      rcases Nat.eq_zero_or_pos j with h | h
      · exact h
      · rw [List.getElem?_eq_none (by simp; omega)] at hp; cases hp
    subst hj0
    have hp' : p = ⟨0, 0, 11, 0⟩ := by simpa using hp.symm
    have hx : x = 5 := by simp [sB] at ho; omega
    subst hx hp'
    rcases hc with ⟨h, _⟩ | ⟨_, rfl, rfl⟩
    · cases h
    · have l1 : (Tr.joinT (Tr.splitT t 0).1 (fstP hw [] ⟨0, 0, 11, 0⟩ 5) (Tr.mk none)).list = [fstP hw [] ⟨0, 0, 11, 0⟩ 5] := by rw [Tr.joinT_list, (Tr.splitT_list t 0).1]; rfl
      have l2 : (Tr.joinT (Tr.mk none) (sndP hw [] ⟨0, 0, 11, 0⟩ 5) (Tr.splitT t (0 + 1)).2).list = [sndP hw [] ⟨0, 0, 11, 0⟩ 5] := by rw [Tr.joinT_list, (Tr.splitT_list t (0 + 1)).2, ht]; rfl
      rcases hj with ⟨_, rfl, rfl, _⟩ | ⟨_, m, r, hm, hr, hjn, _, _⟩
      · exact ⟨_, _, by rw [Tr.joinT_list, l1, l2]; rfl, rfl, rfl⟩
      · exfalso
        rw [l1] at hr
        have hz := (Tr.joinT (Tr.splitT t 0).1 (fstP hw [] ⟨0, 0, 11, 0⟩ 5) (Tr.mk none)).size_list
        rw [l1] at hz
        simp at hz
        obtain rfl : m = 0 := by omega
        have hr' : r = fstP hw [] ⟨0, 0, 11, 0⟩ 5 := by simpa using hr.symm
        subst hr'
        have := (Ab.jn_parts hjn).2.2.1
        simp [fstP, newP] at this

theorem hw_two {t1 t2 : Tr} {a c : Pc} (ht : t1.list = [a, newP [] [44], c]) (ha : a.l = 5) (hc6 : c.l = 6) (h : PutR hw ([] ++ [44]) [33] t1 6 t2) : t2.size = 3 := by
  obtain ⟨T, U, T', q, b, hc, hj, rfl⟩ := h
  have hn : (newP [] [44]).l = 1 := rfl
  have hb : t1.byt = 12 := by rw [byt_list, ht]; simp [sB, ha, hc6, hn]
  rcases hc with ⟨h0, _⟩ | ⟨_, h0, _⟩ | ⟨j, x, p, h1, h2, hp, hx0, hx1, ho, hc⟩
  · omega
  · omega
  · rw [ht] at hp ho
    have hj2 : j = 2 ∧ x = 0 := by
      match j, hp, ho with
      | 0, hp, ho =>
        exfalso
        have : p = a := by simpa using hp.symm
        subst this
        simp [sB] at ho
        omega
      | 1, hp, ho =>
        exfalso
        have : p = newP [] [44] := by simpa using hp.symm
        subst this
        simp [sB, ha] at ho
        omega
      | 2, hp, ho =>
        simp [sB, ha, hn] at ho
        exact ⟨rfl, by omega⟩
      | j + 3, hp, ho => rw [List.getElem?_eq_none (by simp)] at hp; cases hp
    obtain ⟨rfl, rfl⟩ := hj2
    rcases hc with ⟨_, rfl, rfl⟩ | ⟨h, _⟩
    · have l1 : (Tr.splitT t1 2).1.list = [a, newP [] [44]] := by rw [(Tr.splitT_list t1 2).1, ht]; rfl
      have l2 : (Tr.splitT t1 2).2.list = [c] := by rw [(Tr.splitT_list t1 2).2, ht]; rfl
      have z1 := (Tr.splitT t1 2).1.size_list
      rw [l1] at z1
      simp at z1
      rcases hj with ⟨_, rfl, rfl, hno⟩ | ⟨_, m, r, hm, hr, hjn, rfl, rfl⟩
      · exfalso
        have := hno 1 (newP [] [44]) (by omega) (by rw [l1]; rfl)
        revert this
        decide
      · obtain rfl : m = 1 := by omega
        rw [← Tr.size_list, Tr.joinT_list, (Tr.splitT_list (Tr.splitT t1 2).1 1).1, l1, l2]
        rfl
    · omega

end Go.Proofs.YtmhpeppbhjpkiaaGreat

/- What is put into a new sheet and taken out again leaves its spans as they were. -/
namespace Go.Proofs.YtmhpeppbhjpkiaaGreat
open Go.RowKit

/-- A span of a piece. -/
def span (p : Pc) : Int × Int × Int := (p.s, p.o, p.l)

theorem new_list {l : List UInt8} {t : Tr} (h : NewR l t) : t.list = if l = [] then [] else [⟨0, 0, l.length, Ab.nl l⟩] := by
  rcases h with ⟨rfl, rfl⟩ | ⟨hl, rfl⟩
  · rw [Tr.gluT_list]; rfl
  · rw [Tr.joinT_list, if_neg hl]; rfl

theorem sB_nil : sB [] = 0 := rfl
theorem sB_one (p : Pc) : sB [p] = p.l := by simp [sB]
theorem sB_two (p q : Pc) : sB [p, q] = p.l + q.l := by simp [sB]

/-- A cut where a list of pieces parts. -/
theorem cut_between {O A : List UInt8} {t T U : Tr} {L M : List Pc} {off : Int} (h : CutR O A t off T U) (hl : t.list = L ++ M) (hg : Gds O A t.list) (ho : off = sB L) : T.list = L ∧ U.list = M := by
  have pos : ∀ {K : List Pc}, (∀ p ∈ K, 1 ≤ p.l) → K ≠ [] → 0 < sB K := fun {K} hK hne => by
    obtain ⟨q, qs, rfl⟩ := List.exists_cons_of_ne_nil hne
    have h1 := hK q (by simp)
    have h2 : ∀ (qs : List Pc), (∀ p ∈ qs, 1 ≤ p.l) → 0 ≤ sB qs := fun qs => by
      induction qs with
      | nil => intro _; simp [sB]
      | cons a l ih => intro h; rw [sB_cons]; have := h a (by simp); have := ih (fun p hp => h p (by simp [hp])); omega
    have := h2 qs (fun p hp => hK p (by simp [hp]))
    rw [sB_cons]
    omega
  have nonneg : ∀ {K : List Pc}, (∀ p ∈ K, 1 ≤ p.l) → 0 ≤ sB K := fun {K} hK => by
    by_cases hne : K = []
    · rw [hne]; simp [sB]
    · have := pos hK hne; omega
  have hall : ∀ p ∈ t.list, 1 ≤ p.l := fun p hp => (hg p hp).pos
  have hL : ∀ p ∈ L, 1 ≤ p.l := fun p hp => hall p (by rw [hl]; simp [hp])
  have hM : ∀ p ∈ M, 1 ≤ p.l := fun p hp => hall p (by rw [hl]; simp [hp])
  have hb : t.byt = sB L + sB M := by rw [byt_list, hl, sB_append]
  rcases h with ⟨h0, rfl, rfl⟩ | ⟨h0, h1, rfl, rfl⟩ | ⟨j, x, p, h1, h2, hp, hx0, hx1, hq, hc⟩
  · have : L = [] := by
      by_cases hne : L = []
      · exact hne
      · have := pos hL hne; omega
    subst this
    exact ⟨rfl, by rw [hl]; rfl⟩
  · have : M = [] := by
      by_cases hne : M = []
      · exact hne
      · have := pos hM hne; omega
    subst this
    exact ⟨by rw [hl]; simp, rfl⟩
  · have hjlt := (List.getElem?_eq_some_iff.1 hp).1
    have hj : j = L.length := by
      rcases Nat.lt_trichotomy j L.length with hlt | he | hgt
      · exfalso
        have e1 : t.list.take j = L.take j := by rw [hl, List.take_append_of_le_length (by omega)]
        have e2 : L = L.take j ++ p :: L.drop (j + 1) := by
          have hp' : L[j]? = some p := by rw [hl, List.getElem?_append_left hlt] at hp; exact hp
          conv => lhs; rw [← List.take_append_drop j L]
          rw [List.drop_eq_getElem_cons hlt]
          obtain ⟨_, e⟩ := List.getElem?_eq_some_iff.1 hp'
          rw [e]
        have e3 : sB L = sB (L.take j) + (p.l + sB (L.drop (j + 1))) := by conv => lhs; rw [e2]; rw [sB_append, sB_cons]
        have e4 := nonneg (K := L.drop (j + 1)) (fun q hq => hL q (List.mem_of_mem_drop hq))
        rw [e1] at hq
        omega
      · exact he
      · exfalso
        have e1 : t.list.take j = L ++ M.take (j - L.length) := by rw [hl, List.take_append, List.take_of_length_le (by omega)]
        have e2 : M.take (j - L.length) ≠ [] := by
          intro h
          have := congrArg List.length h
          rw [List.length_take] at this
          rw [hl, List.length_append] at hjlt
          have := List.length_nil (α := Pc)
          omega
        have e3 := pos (K := M.take (j - L.length)) (fun q hq => hM q (List.mem_of_mem_take hq)) e2
        rw [e1, sB_append] at hq
        omega
    subst hj
    rw [hl, List.take_left] at hq
    have hx : x = 0 := by omega
    rcases hc with ⟨_, rfl, rfl⟩ | ⟨h, _⟩
    · exact ⟨by rw [(Tr.splitT_list t L.length).1, hl, List.take_left], by rw [(Tr.splitT_list t L.length).2, hl, List.drop_left]⟩
    · omega

/-- The pieces behind an insertion into a new sheet. -/
theorem put_shape {text l : List UInt8} {t0 t1 : Tr} {off : Int} (h0 : NewR text t0) (h1 : PutR text [] l t0 off t1) (hz : text.length ≤ 1048576) (_ho : 0 ≤ off) (hb : off ≤ t0.byt) :
    ∃ La Lb : List Pc, t1.list = La ++ newP [] l :: Lb ∧ sB La = off ∧ (La ++ Lb = t0.list ∨ ∃ a b w : Pc, La = [a] ∧ Lb = [b] ∧ t0.list = [w] ∧ span (bothP a b) = span w ∧ Ab.jnB a.s a.o a.l b.s b.o b.l = true) := by
  obtain ⟨T, U, T', q, bb, hc, hj, rfl⟩ := h1
  obtain ⟨n1, n2, n3, n4⟩ := h0.ok hz
  have hlist := new_list h0
  have hs0 : ∀ p ∈ t0.list, p.s = 0 := fun p hp => by
    rw [hlist] at hp
    split at hp
    · cases hp
    · simp at hp; rw [hp]
  -- the tree ahead holds pieces of the original alone
  have hT : ∀ p ∈ T.list, p.s = 0 := by
    rcases hc with ⟨_, rfl, rfl⟩ | ⟨_, _, rfl, rfl⟩ | ⟨j, x, p, _, _, hp, _, _, _, ⟨_, rfl, rfl⟩ | ⟨_, rfl, rfl⟩⟩
    · intro p hp; cases hp
    · exact hs0
    · intro p hp; rw [(Tr.splitT_list t0 j).1] at hp; exact hs0 p (List.mem_of_mem_take hp)
    · intro r hr
      rw [Tr.joinT_list, (Tr.splitT_list t0 j).1] at hr
      rcases List.mem_append.1 hr with hr | hr
      · exact hs0 r (List.mem_of_mem_take hr)
      · rcases List.mem_cons.1 hr with rfl | hr
        · exact hs0 p (List.mem_of_getElem? hp)
        · cases hr
  rcases hj with ⟨_, rfl, rfl, _⟩ | ⟨_, m, r, hm, hr, hjn, _, _⟩
  · refine ⟨T'.list, U.list, Tr.joinT_list _ _ _, ?_⟩
    rcases hc with ⟨e0, rfl, rfl⟩ | ⟨_, e0, rfl, rfl⟩ | ⟨j, x, p, e1, e2, hp, hx0, hx1, hq, hcc⟩
    · exact ⟨by rw [e0]; rfl, .inl rfl⟩
    · exact ⟨by rw [e0, byt_list], .inl (by simp [Tr.list])⟩
    · have hne : text ≠ [] := by
        rintro rfl
        rw [hlist] at hp
        simp at hp
      rw [if_neg hne] at hlist
      have hj0 : j = 0 := by
        rcases Nat.eq_zero_or_pos j with h | h
        · exact h
        · rw [hlist, List.getElem?_eq_none (by simp; omega)] at hp; cases hp
      subst hj0
      have hpw : p = ⟨0, 0, text.length, Ab.nl text⟩ := by rw [hlist] at hp; simpa using hp.symm
      have hxo : x = off := by rw [List.take_zero, sB_nil] at hq; omega
      rcases hcc with ⟨h, _⟩ | ⟨hx, rfl, rfl⟩
      · omega
      · have l1 : (Tr.joinT (Tr.splitT t0 0).1 (fstP text [] p x) (Tr.mk none)).list = [fstP text [] p x] := by rw [Tr.joinT_list, (Tr.splitT_list t0 0).1]; rfl
        have l2 : (Tr.joinT (Tr.mk none) (sndP text [] p x) (Tr.splitT t0 (0 + 1)).2).list = [sndP text [] p x] := by rw [Tr.joinT_list, (Tr.splitT_list t0 (0 + 1)).2, hlist]; rfl
        refine ⟨by rw [l1, sB_one]; exact hxo, .inr ⟨_, _, _, l1, l2, hlist, ?_, ?_⟩⟩
        · rw [hpw]; simp [span, bothP, fstP, sndP]; omega
        · have hpl : p.l = text.length := by rw [hpw]
          have c1 : Ab.sndB 0 0 x = true := snd_true ⟨.inl rfl, by omega, by omega, by omega⟩
          have c2 : Ab.sndB 0 (0 + x) ((text.length : Int) - x) = true := snd_true ⟨.inl rfl, by omega, by omega, by omega⟩
          rw [hpw]
          simp only [fstP, sndP, Ab.jnB]
          rw [c1, c2]
          simp
  · exfalso
    have hh := hT r (List.mem_of_getElem? hr)
    have := (Ab.jn_parts hjn).2.2.1
    rw [hh] at this
    simp [newP] at this

/-- What is put into a new sheet and taken out again leaves its spans. -/
theorem back_spans {text l : List UInt8} {t0 t1 t2 : Tr} {off : Int} (h0 : NewR text t0) (h1 : PutR text [] l t0 off t1) (h2 : OutR text ([] ++ l) t1 off (off + l.length) t2) (hg : Gds text ([] ++ l) t1.list) (hw : t1.whole) (hz : text.length ≤ 1048576) (ho : 0 ≤ off) (hb : off ≤ t0.byt) :
    t2.list.map span = t0.list.map span := by
  obtain ⟨La, Lb, e1, e2, e3⟩ := put_shape h0 h1 hz ho hb
  obtain ⟨T, U, T1, U1, hc, hd, hm⟩ := h2
  have hsp : t1.list = (La ++ [newP [] l]) ++ Lb := by rw [e1]; simp
  obtain ⟨a1, a2⟩ := cut_between hc hsp hg (by rw [sB_append, sB_one, e2]; rfl)
  obtain ⟨c1, c2, c3, c4, _, _, _⟩ := hc.ok hw hg
  obtain ⟨b1, b2⟩ := cut_between hd a1 c3 e2.symm
  have hlist := new_list h0
  have hlen : t0.list.length ≤ 1 := by rw [hlist]; split <;> simp
  have hU : U.list = Lb := a2
  have zU := U.size_list
  rw [hU] at zU
  have zT := T1.size_list
  rw [b1] at zT
  rcases hm with ⟨hz0, rfl⟩ | ⟨p, Tj, q, b, hp, hj, ⟨rfl, rfl⟩ | ⟨rfl, rfl⟩⟩
  · rw [Tr.gluT_list, b1, hU]
    rcases e3 with e3 | ⟨a, b, w, _, e4, _⟩
    · rw [e3]
    · rw [e4] at zU; simp at zU; omega
  · rw [Tr.gluT_list, b1, hU]
    rcases e3 with e3 | ⟨a, b, w, e4, e5, e6, e7, e8⟩
    · rw [e3]
    · exfalso
      rcases hj with ⟨_, _, _, hno⟩ | ⟨h, _⟩
      · rw [hU, e5] at hp
        have hpb : p = b := by simpa using hp.symm
        rw [e4] at zT
        have := hno 0 a (by simp at zT; omega) (by rw [b1, e4]; rfl)
        rw [hpb, e8] at this
        cases this
      · cases h
  · rw [Tr.joinT_list, (Tr.splitT_list U 1).2, hU]
    rcases hj with ⟨h, _⟩ | ⟨_, m, r, hm, hr, hjn, rfl, rfl⟩
    · cases h
    · rw [(Tr.splitT_list T1 m).1, b1]
      rw [b1] at hr
      rw [hU] at hp
      rcases e3 with e3 | ⟨a, b, w, e4, e5, e6, e7, e8⟩
      · exfalso
        have x1 := (List.getElem?_eq_some_iff.1 hr).1
        have x2 := (List.getElem?_eq_some_iff.1 hp).1
        rw [← e3, List.length_append] at hlen
        omega
      · subst e4 e5
        have hm0 : m = 0 := by simp at zT; omega
        subst hm0
        have ha : r = a := by simpa using hr.symm
        have hb' : p = b := by simpa using hp.symm
        rw [e6, ha, hb']
        simpa using e7

end Go.Proofs.YtmhpeppbhjpkiaaGreat

