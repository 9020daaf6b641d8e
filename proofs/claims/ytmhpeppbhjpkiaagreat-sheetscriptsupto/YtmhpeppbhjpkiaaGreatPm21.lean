/- How a tree is cut, joined, met, put into and taken out of: one answer at most; no program. -/
import Derived.Test.YtmhpeppbhjpkiaaGreatPm14
import Derived.Test.YtmhpeppbhjpkiaaGreatPm20
namespace Go.Proofs.YtmhpeppbhjpkiaaGreat
open Go.RowKit

/-- no piece has fewer than no bytes -/
def Nng (L : List Pc) : Prop := ∀ p ∈ L, 0 ≤ p.l
theorem Gds.nng {O A : List UInt8} {L : List Pc} (h : Gds O A L) : Nng L := fun p hp => by
  have := (h p hp).fit
  unfold Pc.fit at this
  omega
theorem sB_snoc (L : List Pc) (j : Nat) (p : Pc) (h : L[j]? = some p) : sB (L.take (j + 1)) = sB (L.take j) + p.l := by
  obtain ⟨h1, rfl⟩ := List.getElem?_eq_some_iff.1 h
  rw [List.take_succ_eq_append_getElem h1, sB_append]
  simp [sB]
theorem sB_mono {L : List Pc} (hn : Nng L) (i : Nat) : ∀ d, sB (L.take i) ≤ sB (L.take (i + d))
  | 0 => Int.le_refl _
  | d + 1 => by
    have ih := sB_mono hn i d
    rcases Nat.lt_or_ge (i + d) L.length with h | h
    · have e := sB_snoc L (i + d) _ (List.getElem?_eq_getElem h)
      have := hn _ (List.getElem_mem h)
      rw [show i + (d + 1) = i + d + 1 from by omega, e]
      omega
    · rw [List.take_of_length_le h] at ih
      rw [List.take_of_length_le (by omega : L.length ≤ i + (d + 1))]
      exact ih
/-- the piece of a byte is one -/
theorem at_one {L : List Pc} (hn : Nng L) {i j : Nat} {x y : Int} {p q : Pc} (hi : L[i]? = some p) (hj : L[j]? = some q) (hx : 0 ≤ x ∧ x < p.l) (hy : 0 ≤ y ∧ y < q.l) (h : sB (L.take i) + x = sB (L.take j) + y) : i = j ∧ x = y ∧ p = q := by
  have aux : ∀ {i j : Nat} {x y : Int} {p : Pc}, L[i]? = some p → x < p.l → 0 ≤ y → sB (L.take i) + x = sB (L.take j) + y → ¬ i < j := fun {i j x y p} hi hx hy h hl => by
    have e := sB_snoc L i p hi
    have m := sB_mono hn (i + 1) (j - (i + 1))
    rw [show i + 1 + (j - (i + 1)) = j from by omega, e] at m
    omega
  have h1 := aux hi hx.2 hy.1 h
  have h2 := aux hj hy.2 hx.1 h.symm
  obtain rfl : i = j := by omega
  rw [hi] at hj
  exact ⟨rfl, by omega, by simpa using hj⟩
theorem CutR.one {O A : List UInt8} {t : Tr} {off : Int} {T U T' U' : Tr} (hn : Nng t.list) (h : CutR O A t off T U) (k : CutR O A t off T' U') : T = T' ∧ U = U' := by
  rcases h with ⟨h0, rfl, rfl⟩ | ⟨h0, h1, rfl, rfl⟩ | ⟨j, x, p, h0, h1, hj, hx0, hx1, he, hc⟩
  · rcases k with ⟨k0, rfl, rfl⟩ | ⟨k0, k1, rfl, rfl⟩ | ⟨j, x, p, k0, k1, hj, hx0, hx1, he, hc⟩
    · exact ⟨rfl, rfl⟩
    · exact absurd h0 k0
    · omega
  · rcases k with ⟨k0, rfl, rfl⟩ | ⟨k0, k1, rfl, rfl⟩ | ⟨j, x, p, k0, k1, hj, hx0, hx1, he, hc⟩
    · exact absurd k0 h0
    · exact ⟨rfl, rfl⟩
    · omega
  · rcases k with ⟨k0, rfl, rfl⟩ | ⟨k0, k1, rfl, rfl⟩ | ⟨j', x', p', k0, k1, kj, kx0, kx1, ke, kc⟩
    · omega
    · omega
    · obtain ⟨rfl, rfl, rfl⟩ := at_one hn hj kj ⟨hx0, hx1⟩ ⟨kx0, kx1⟩ (by omega)
      rcases hc with ⟨a, rfl, rfl⟩ | ⟨a, rfl, rfl⟩ <;> rcases kc with ⟨b, rfl, rfl⟩ | ⟨b, rfl, rfl⟩
      · exact ⟨rfl, rfl⟩
      · omega
      · omega
      · exact ⟨rfl, rfl⟩
theorem JoinR.one {t : Tr} {p : Pc} {T T' : Tr} {q q' : Pc} {b b' : Bool} (h : JoinR t p T q b) (k : JoinR t p T' q' b') : T = T' ∧ q = q' ∧ b = b' := by
  rcases h with ⟨rfl, rfl, rfl, h⟩ | ⟨rfl, m, r, h1, h2, h3, rfl, rfl⟩
  · rcases k with ⟨rfl, rfl, rfl, k⟩ | ⟨rfl, m, r, k1, k2, k3, rfl, rfl⟩
    · exact ⟨rfl, rfl, rfl⟩
    · rw [h m r k1 k2] at k3; simp at k3
  · rcases k with ⟨rfl, rfl, rfl, k⟩ | ⟨rfl, m', r', k1, k2, k3, rfl, rfl⟩
    · rw [k m r h1 h2] at h3; simp at h3
    · obtain rfl : m = m' := by omega
      rw [h2] at k2
      obtain rfl : r = r' := by simpa using k2
      exact ⟨rfl, rfl, rfl⟩
theorem MeetR.one {L R t t' : Tr} (h : MeetR L R t) (k : MeetR L R t') : t = t' := by
  have hz : ∀ {p : Pc}, R.size = 0 → R.list[0]? = some p → False := fun {p} h0 h1 => by
    have := (List.getElem?_eq_some_iff.1 h1).1
    rw [R.size_list] at this
    omega
  rcases h with ⟨h0, rfl⟩ | ⟨p, T, q, b, h1, h2, h3⟩
  · rcases k with ⟨k0, rfl⟩ | ⟨p, T, q, b, k1, k2, k3⟩
    · rfl
    · exact (hz h0 k1).elim
  · rcases k with ⟨k0, rfl⟩ | ⟨p', T', q', b', k1, k2, k3⟩
    · exact (hz k0 h1).elim
    · rw [h1] at k1
      obtain rfl : p = p' := by simpa using k1
      obtain ⟨rfl, rfl, rfl⟩ := h2.one k2
      rcases h3 with ⟨a, rfl⟩ | ⟨a, rfl⟩ <;> rcases k3 with ⟨b, rfl⟩ | ⟨b, rfl⟩
      · rfl
      · rw [a] at b; simp at b
      · rw [a] at b; simp at b
      · rfl
theorem PutR.one {O A l : List UInt8} {t t' t'' : Tr} {off : Int} (hn : Nng t.list) (h : PutR O A l t off t') (k : PutR O A l t off t'') : t' = t'' := by
  obtain ⟨T, U, T', q, b, h1, h2, rfl⟩ := h
  obtain ⟨V, W, V', r, c, k1, k2, rfl⟩ := k
  obtain ⟨rfl, rfl⟩ := h1.one hn k1
  obtain ⟨rfl, rfl, rfl⟩ := h2.one k2
  rfl
theorem OutR.one {O A : List UInt8} {t t' t'' : Tr} {x y : Int} (hw : t.whole) (hg : Gds O A t.list) (h : OutR O A t x y t') (k : OutR O A t x y t'') : t' = t'' := by
  obtain ⟨T, U, T1, U1, h1, h2, h3⟩ := h
  obtain ⟨V, W, V1, W1, k1, k2, k3⟩ := k
  obtain ⟨rfl, rfl⟩ := h1.one hg.nng k1
  obtain ⟨a1, a2, a3, a4, a5, a6, a7⟩ := h1.ok hw hg
  obtain ⟨rfl, rfl⟩ := h2.one a3.nng k2
  exact h3.one k3
end Go.Proofs.YtmhpeppbhjpkiaaGreat

/- A sheet told by its tree; edits of a tree; what they leave, and that it is one. -/
namespace Go.Proofs.YtmhpeppbhjpkiaaGreat
open Go.RowKit

/-- something taken out, or nothing -/
def OuR (O A : List UInt8) (t : Tr) (x : Int) (k : Nat) (t' : Tr) : Prop := if k = 0 then t' = t else OutR O A t x (x + k) t'
/-- something put in, or nothing -/
def PuR (O A l : List UInt8) (t : Tr) (x : Int) (t' : Tr) : Prop := if l.length = 0 then t' = t else PutR O A l t x t'
/-- one edit more, if there is anything of it -/
def cnt (n : Nat) (e : Int) : Int := if n = 0 then e else e + 1
/-- an edit of a tree -/
def EdR (O A : List UInt8) (t : Tr) (e : Int) (d : Ed) (A' : List UInt8) (t' : Tr) (e' : Int) : Prop := ∃ t1, OuR O A t d.at' d.old.length t1 ∧ PuR O A d.new t1 d.at' t' ∧ A' = A ++ d.new ∧ e' = cnt d.new.length (cnt d.old.length e)
/-- edits of a tree, one behind the other -/
def ApR (O : List UInt8) : List UInt8 → Tr → Int → List Ed → Option (List UInt8 × Tr × Int) → Prop
  | A, t, e, [], r => r = some (A, t, e)
  | A, t, e, d :: ds, r => if edB (txt O A t.list) d then ∃ A' t' e', EdR O A t e d A' t' e' ∧ ApR O A' t' e' ds r else r = none
theorem cnt_le (n : Nat) (e : Int) : e ≤ cnt n e ∧ cnt n e ≤ e + 1 := by unfold cnt; split <;> omega
theorem OuR.ok {O A : List UInt8} {t t' : Tr} {x : Int} {k : Nat} (h : OuR O A t x k t') (hw : t.whole) (hg : Gds O A t.list) (hz : (txt O A t.list).length ≤ 1048575) (h0 : 0 ≤ x) :
    t'.whole ∧ Gds O A t'.list ∧ txt O A t'.list = (txt O A t.list).take x.toNat ++ (txt O A t.list).drop (x.toNat + k) ∧ t'.list.length ≤ t.list.length + (if k = 0 then 0 else 2) := by
  unfold OuR at h
  split at h
  · rename_i hk
    subst h hk
    exact ⟨hw, hg, by rw [Nat.add_zero, List.take_append_drop], by simp⟩
  · rename_i hk
    obtain ⟨h1, h2, h3⟩ := h.ok hw hg hz (by omega)
    refine ⟨h1, h2, ?_, by rw [if_neg hk]; exact h.len⟩
    rw [h3, show (x + (k : Int)).toNat = x.toNat + k from by omega]
theorem PuR.ok {O A l : List UInt8} {t t' : Tr} {x : Int} (h : PuR O A l t x t') (hw : t.whole) (hg : Gds O A t.list) (hz : (txt O A t.list).length + l.length ≤ 1048575) (hA : A.length + l.length ≤ 1048576) :
    t'.whole ∧ Gds O (A ++ l) t'.list ∧ txt O (A ++ l) t'.list = (txt O A t.list).take x.toNat ++ (l ++ (txt O A t.list).drop x.toNat) ∧ t'.list.length ≤ t.list.length + (if l.length = 0 then 0 else 2) := by
  unfold PuR at h
  split at h
  · rename_i hk
    obtain rfl : l = [] := List.length_eq_zero_iff.1 hk
    subst h
    exact ⟨hw, by rw [List.append_nil]; exact hg, by rw [List.append_nil, List.nil_append, List.take_append_drop], by simp⟩
  · rename_i hk
    obtain ⟨h1, h2, h3⟩ := h.ok hw hg (fun e => hk (by rw [e]; rfl)) hz hA
    exact ⟨h1, h2, h3, by rw [if_neg hk]; exact h.len⟩
theorem OuR.one {O A : List UInt8} {t t' t'' : Tr} {x : Int} {k : Nat} (hw : t.whole) (hg : Gds O A t.list) (h : OuR O A t x k t') (h' : OuR O A t x k t'') : t' = t'' := by
  unfold OuR at h h'
  split at h
  · rename_i hk; rw [if_pos hk] at h'; rw [h, h']
  · rename_i hk; rw [if_neg hk] at h'; exact h.one hw hg h'
theorem PuR.one {O A l : List UInt8} {t t' t'' : Tr} {x : Int} (hg : Gds O A t.list) (h : PuR O A l t x t') (h' : PuR O A l t x t'') : t' = t'' := by
  unfold PuR at h h'
  split at h
  · rename_i hk; rw [if_pos hk] at h'; rw [h, h']
  · rename_i hk; rw [if_neg hk] at h'; exact h.one hg.nng h'
theorem OutR.len1 {O A : List UInt8} {t t' : Tr} {x y : Int} (h : OutR O A t x y t') (hw : t.whole) (hg : Gds O A t.list) (h0 : 0 ≤ x) (h1 : x < y) (h2 : y ≤ ((txt O A t.list).length : Int)) : t'.list.length ≤ t.list.length + 1 := by
  obtain ⟨T, U, T1, U1, hc, hd, hm⟩ := h
  obtain ⟨a1, a2, a3, a4, a5, a6, a7⟩ := hc.ok hw hg
  obtain ⟨b1, b2, b3, b4, b5, b6, b7⟩ := hd.ok a1 a3
  have n1 := hc.len
  have n2 := hd.len
  have n3 := hm.len
  have hU : 1 ≤ U1.list.length := by
    rcases Nat.eq_zero_or_pos U1.list.length with e | e
    · have e1 := congrArg List.length b6
      rw [List.length_eq_zero_iff.1 e, txt_nil, a5] at e1
      simp only [List.length_nil, List.length_drop, List.length_take] at e1
      omega
    · exact e
  omega
theorem OuR.len1 {O A : List UInt8} {t t' : Tr} {x : Int} {k : Nat} (h : OuR O A t x k t') (hw : t.whole) (hg : Gds O A t.list) (h0 : 0 ≤ x) (h2 : x + k ≤ ((txt O A t.list).length : Int)) : t'.list.length ≤ t.list.length + (if k = 0 then 0 else 1) := by
  unfold OuR at h
  split at h
  · rename_i hk; subst h; simp
  · rename_i hk; rw [if_neg hk]; exact h.len1 hw hg h0 (by omega) h2
/-- how many pieces an edit makes at most -/
def dl (d : Ed) : Nat := (if d.old.length = 0 then 0 else 1) + (if d.new.length = 0 then 0 else 2)
def dsum : List Ed → Nat
  | [] => 0
  | d :: ds => dl d + dsum ds
theorem dsum_drop {es : List Ed} {i : Nat} {d : Ed} (h : es[i]? = some d) : dsum (es.drop i) = dl d + dsum (es.drop (i + 1)) := by
  obtain ⟨hi, rfl⟩ := List.getElem?_eq_some_iff.1 h
  rw [List.drop_eq_getElem_cons hi]; rfl
/-- what an edit leaves -/
theorem EdR.ok {O A A' : List UInt8} {t t' : Tr} {e e' : Int} {d : Ed} (h : EdR O A t e d A' t' e') (hd : edB (txt O A t.list) d = true) (hw : t.whole) (hg : Gds O A t.list) (hz : (txt O A t.list).length + d.new.length ≤ 1048575) (hA : A.length + d.new.length ≤ 1048576) :
    t'.whole ∧ Gds O A' t'.list ∧ txt O A' t'.list = edT (txt O A t.list) d ∧ t'.list.length ≤ t.list.length + dl d ∧ A' = A ++ d.new ∧ e ≤ e' ∧ e' ≤ e + 2 := by
  obtain ⟨t1, h1, h2, rfl, rfl⟩ := h
  obtain ⟨p1, p2, -⟩ := of_decide_eq_true hd
  obtain ⟨a1, a2, a3, a4⟩ := h1.ok hw hg (by omega) p1
  have q : (txt O A t1.list).length + d.old.length = (txt O A t.list).length := by
    rw [a3, List.length_append, List.length_take, List.length_drop]; omega
  obtain ⟨b1, b2, b3, b4⟩ := h2.ok a1 a2 (by omega) hA
  refine ⟨b1, b2, ?_, ?_, rfl, ?_, ?_⟩
  · rw [b3, a3]
    unfold edT
    have hk : ((txt O A t.list).take d.at'.toNat).length = d.at'.toNat := by rw [List.length_take]; omega
    rw [List.take_left' hk, List.drop_left' hk]
  · have c4 := h1.len1 hw hg p1 p2
    unfold dl
    omega
  · have := cnt_le d.old.length e; have := cnt_le d.new.length (cnt d.old.length e); omega
  · have := cnt_le d.old.length e; have := cnt_le d.new.length (cnt d.old.length e); omega
theorem EdR.one {O A A' A'' : List UInt8} {t t' t'' : Tr} {e e' e'' : Int} {d : Ed} (h0 : 0 ≤ d.at') (hw : t.whole) (hg : Gds O A t.list) (hz : (txt O A t.list).length ≤ 1048575) (h : EdR O A t e d A' t' e') (k : EdR O A t e d A'' t'' e'') : A' = A'' ∧ t' = t'' ∧ e' = e'' := by
  obtain ⟨t1, h1, h2, rfl, rfl⟩ := h
  obtain ⟨t2, k1, k2, rfl, rfl⟩ := k
  obtain rfl := h1.one hw hg k1
  obtain ⟨a1, a2, a3, a4⟩ := h1.ok hw hg hz h0
  exact ⟨rfl, h2.one a2 k2, rfl⟩
theorem ApR.one {O : List UInt8} : ∀ (es : List Ed) (A : List UInt8) (t : Tr) (e : Int) (r r' : Option (List UInt8 × Tr × Int)), t.whole → Gds O A t.list → (txt O A t.list).length + nsum es ≤ 1048575 → A.length + nsum es ≤ 1048576 → ApR O A t e es r → ApR O A t e es r' → r = r'
  | [], A, t, e, r, r', _, _, _, _, h, k => by unfold ApR at h k; rw [h, k]
  | d :: ds, A, t, e, r, r', hw, hg, hz, hA, h, k => by
    have n : nsum (d :: ds) = d.new.length + nsum ds := rfl
    unfold ApR at h k
    split at h
    · rename_i hd
      rw [if_pos hd] at k
      obtain ⟨A1, t1, e1, h1, h2⟩ := h
      obtain ⟨A2, t2, e2, k1, k2⟩ := k
      obtain ⟨rfl, rfl, rfl⟩ := h1.one (of_decide_eq_true hd).1 hw hg (by omega) k1
      obtain ⟨o1, o2, o3, o4, rfl, o6, o7⟩ := h1.ok hd hw hg (by omega) (by omega)
      have ln := edT_len hd
      rw [← o3] at ln
      exact ApR.one ds _ _ _ r r' o1 o2 (by omega) (by rw [List.length_append]; omega) h2 k2
    · rename_i hd
      rw [if_neg hd] at k
      rw [h, k]
/-- what edits leave -/
theorem ApR.ok {O : List UInt8} : ∀ (es : List Ed) (A : List UInt8) (t : Tr) (e : Int) (A' : List UInt8) (t' : Tr) (e' : Int), t.whole → Gds O A t.list → (txt O A t.list).length + nsum es ≤ 1048575 → A.length + nsum es ≤ 1048576 → ApR O A t e es (some (A', t', e')) → t'.whole ∧ Gds O A' t'.list ∧ apT (txt O A t.list) es = some (txt O A' t'.list) ∧ t'.list.length ≤ t.list.length + dsum es ∧ A'.length = A.length + nsum es ∧ e ≤ e' ∧ e' ≤ e + 2 * es.length
  | [], A, t, e, A', t', e', hw, hg, hz, hA, h => by
    unfold ApR at h
    simp only [Option.some.injEq, Prod.mk.injEq] at h
    obtain ⟨rfl, rfl, rfl⟩ := h
    exact ⟨hw, hg, rfl, by simp [dsum], by simp [nsum], Int.le_refl _, by simp⟩
  | d :: ds, A, t, e, A', t', e', hw, hg, hz, hA, h => by
    have n : nsum (d :: ds) = d.new.length + nsum ds := rfl
    unfold ApR at h
    split at h
    · rename_i hd
      obtain ⟨A1, t1, e1, h1, h2⟩ := h
      obtain ⟨o1, o2, o3, o4, rfl, o6, o7⟩ := h1.ok hd hw hg (by omega) (by omega)
      have ln := edT_len hd
      rw [← o3] at ln
      obtain ⟨p1, p2, p3, p4, p5, p6, p7⟩ := ApR.ok ds _ _ _ A' t' e' o1 o2 (by omega) (by rw [List.length_append]; omega) h2
      rw [List.length_append] at p5
      have ns : dsum (d :: ds) = dl d + dsum ds := rfl
      refine ⟨p1, p2, ?_, by omega, by omega, by omega, by rw [List.length_cons]; omega⟩
      unfold apT
      rw [if_pos hd, ← o3]
      exact p3
    · simp at h
/-- edits from one of them on -/
theorem ApR.step {O A A' : List UInt8} {t t' : Tr} {e e' : Int} {es : List Ed} {i : Nat} {d : Ed} (h : es[i]? = some d) (hd : edB (txt O A t.list) d = true) (hE : EdR O A t e d A' t' e') {r : Option (List UInt8 × Tr × Int)} (hr : ApR O A' t' e' (es.drop (i + 1)) r) : ApR O A t e (es.drop i) r := by
  obtain ⟨hi, rfl⟩ := List.getElem?_eq_some_iff.1 h
  rw [List.drop_eq_getElem_cons hi]
  unfold ApR
  rw [if_pos hd]
  exact ⟨A', t', e', hE, hr⟩
theorem ApR.stop {O A : List UInt8} {t : Tr} {e : Int} {es : List Ed} {i : Nat} {d : Ed} (h : es[i]? = some d) (hd : edB (txt O A t.list) d = false) : ApR O A t e (es.drop i) none := by
  obtain ⟨hi, rfl⟩ := List.getElem?_eq_some_iff.1 h
  rw [List.drop_eq_getElem_cons hi]
  unfold ApR
  rw [hd]
  exact rfl
/-- A sheet of one tree behind edits since w. -/
structure LiveT (w W : World) (base sb bb : Nat) (vo va0 : Value) (O A : List UInt8) (t : Tr) (e : Int) : Prop where
  ex : ∃ va a, Sh W base sb bb vo va O A t a e ∧ Wn t e ∧ Gds O A t.list ∧ (va.ownBlock = va0.ownBlock ∨ ∃ k, va.ownBlock = some k ∧ w.heap.size ≤ k)
  chg : Chg w W sb bb va0.ownBlock
theorem LiveT.keep {w W W' : World} {base sb bb : Nat} {vo va0 : Value} {O A : List UInt8} {t : Tr} {e : Int} (h : LiveT w W base sb bb vo va0 O A t e) (hb : Below W.heap.size W W') : LiveT w W' base sb bb vo va0 O A t e := by
  obtain ⟨⟨va, a, h1, h2, h3, h5⟩, hc⟩ := h
  exact ⟨⟨va, a, h1.keep hb, h2, h3, h5⟩, hc.below hb⟩
/-- blocks besides the sheet's, and what they hold -/
def Kpt (K : List (Nat × Obj)) (W : World) (sb bb : Nat) (vo va : Value) : Prop := Kp K W sb bb va ∧ ∀ p ∈ K, vo.ownBlock ≠ some p.1
/-- A sheet of one tree as a law holds it. -/
structure LzT (K : List (Nat × Obj)) (w0 W : World) (sb : Nat) (O A : List UInt8) (t : Tr) (e : Int) : Prop where
  ex : ∃ bb vo va a, Sh W w0.heap.size sb bb vo va O A t a e ∧ (Wn t e ∧ Kpt K W sb bb vo va) ∧ Gds O A t.list
  bel : Below w0.heap.size w0 W
theorem LzT.lz {K : List (Nat × Obj)} {w0 W : World} {sb : Nat} {O A : List UInt8} {t : Tr} {e : Int} (h : LzT K w0 W sb O A t e) : Lz K w0 W sb O A (txt O A t.list) e := by
  obtain ⟨⟨bb, vo, va, a, h1, h2, h3⟩, hb⟩ := h
  exact ⟨⟨bb, vo, va, t, a, h1, ⟨h2.1, h2.2.1⟩, h3, rfl⟩, hb⟩
theorem LzT.keep {K : List (Nat × Obj)} {w0 W W' : World} {sb : Nat} {O A : List UInt8} {t : Tr} {e : Int} (h : LzT K w0 W sb O A t e) (hb : Below W.heap.size W W') : LzT K w0 W' sb O A t e := by
  obtain ⟨⟨bb, vo, va, a, h1, h2, h3⟩, hc⟩ := h
  exact ⟨⟨bb, vo, va, a, h1.keep hb, ⟨h2.1, h2.2.1.keep hb, h2.2.2⟩, h3⟩, bTl hc hb⟩
theorem LiveT.lz {K : List (Nat × Obj)} {w0 w W : World} {sb bb : Nat} {vo va0 : Value} {O A A0 : List UInt8} {t : Tr} {e : Int} (h : LiveT w W w0.heap.size sb bb vo va0 O A t e) (hb : Below w0.heap.size w0 w) (hv : w.ownsRow w0.heap.size 5 1 va0 A0.length (Ab.bv A0)) (hK : Kpt K w sb bb vo va0) : LzT K w0 W sb O A t e := by
  obtain ⟨⟨va, a, h1, h2, h3, h5⟩, hc⟩ := h
  exact ⟨⟨bb, vo, va, a, h1, ⟨h2, hK.1.chg hc h5, hK.2⟩, h3⟩, Chg.below_of hb hb.size hc h1.lo h1.buf.lo (fun k hk => own_ge hv hk)⟩
/-- blocks more that are none of the sheet's -/
theorem LzT.mores {K K' : List (Nat × Obj)} {w0 W W' : World} {sb : Nat} {O A : List UInt8} {t : Tr} {e : Int} (h : LzT K w0 W sb O A t e) (hb : Below W.heap.size W W') (hg : ∀ p ∈ K', W'.heap[p.1]? = some p.2 ∧ (W.heap.size ≤ p.1 ∨ p.1 < w0.heap.size)) : LzT (K' ++ K) w0 W' sb O A t e := by
  obtain ⟨⟨bb, vo, va, a, h1, h2, h3⟩, hc⟩ := h
  have a1 := sh_lt h1.here
  have a2 := sh_lt h1.buf.here
  have b1 := h1.lo
  have b2 := h1.buf.lo
  refine ⟨⟨bb, vo, va, a, h1.keep hb, ⟨h2.1, fun p hp => ?_, fun p hp => ?_⟩, h3⟩, bTl hc hb⟩
  · rcases List.mem_append.1 hp with hp | hp
    · obtain ⟨g1, g2⟩ := hg p hp
      refine ⟨g1, fun e => ?_, fun e => ?_, fun e => ?_⟩
      · omega
      · omega
      · have := h1.buf.added.lt _ e
        omega
    · exact (h2.2.1.keep hb) p hp
  · rcases List.mem_append.1 hp with hp | hp
    · obtain ⟨g1, g2⟩ := hg p hp
      intro e
      have := h1.buf.orig.lt _ e
      omega
    · exact h2.2.2 p hp
theorem LzT.less {K K' : List (Nat × Obj)} {w0 W : World} {sb : Nat} {O A : List UInt8} {t : Tr} {e : Int} (h : LzT K w0 W sb O A t e) (hs : ∀ p ∈ K', p ∈ K) : LzT K' w0 W sb O A t e := by
  obtain ⟨⟨bb, vo, va, a, h1, h2, h3⟩, hc⟩ := h
  exact ⟨⟨bb, vo, va, a, h1, ⟨h2.1, fun p hp => h2.2.1 p (hs p hp), fun p hp => h2.2.2 p (hs p hp)⟩, h3⟩, hc⟩
theorem LzT.held {K : List (Nat × Obj)} {w0 W : World} {sb : Nat} {O A : List UInt8} {t : Tr} {e : Int} (h : LzT K w0 W sb O A t e) {p : Nat × Obj} (hp : p ∈ K) : W.heap[p.1]? = some p.2 := by
  obtain ⟨⟨bb, vo, va, a, h1, h2, h3⟩, hc⟩ := h
  exact (h2.2.1 p hp).1
theorem takeOut_tr {w W : World} {base sb bb : Nat} {vo va0 : Value} {O A : List UInt8} {t : Tr} {e : Int} (x k : Nat) (h : LiveT w W base sb bb vo va0 O A t e) (hz : (txt O A t.list).length ≤ 1048574) (hx : x + k ≤ (txt O A t.list).length) (he : 0 ≤ e ∧ e ≤ 4611686018427387904) :
    Calls Tryz.prog 68 #[.pointer (some ⟨sb, 0, none⟩), .int .i64 (x : Int), .int .i64 ((x + k : Nat) : Int)] W fun e' w' => (∃ r, e' = .returned r) ∧ ∃ t', OuR O A t x k t' ∧ LiveT w w' base sb bb vo va0 O A t' (cnt k e) ∧ Stay W w' sb := by
  obtain ⟨⟨va, a, h1, h2, h3, h5⟩, hc⟩ := h
  rcases Nat.eq_zero_or_pos k with rfl | hk
  · refine (takeOut_none _ _ W).mono ?_
    rintro e' w' ⟨hr, hb⟩
    exact ⟨hr, t, rfl, ⟨⟨va, a, h1.keep hb, h2, h3, h5⟩, hc.below hb⟩, Stay.of_below hb sb⟩
  · have hb := txt_len h3
    rw [← byt_list] at hb
    refine (takeOut_some sb bb vo va O A t a e base x (x + k : Nat) W h1 h2.1 h3 hz (by simp; omega) (by omega) (by omega) (by omega) he).mono ?_
    rintro e' w' ⟨hr, a', t', ho, hs, hch⟩
    obtain ⟨o1, o2, o3⟩ := ho.ok h2.1 h3 (by omega) (by omega)
    have hlen := ho.len
    have hlen2 := h2.2
    refine ⟨hr, t', ?_, ?_, Stay.of_chg h1 hch⟩
    · unfold OuR; rw [if_neg (by omega)]; simpa using ho
    · unfold cnt
      rw [if_neg (by omega)]
      exact ⟨⟨va, a', hs, ⟨o1, by omega⟩, o2, h5⟩, hc.trans hch h5⟩
theorem putIn_tr {w W : World} {base sb bb : Nat} {vo va0 : Value} {O A : List UInt8} {t : Tr} {e : Int} (x : Nat) (ao : Option Addr) (c : Nat) (l : List UInt8) (h : LiveT w W base sb bb vo va0 O A t e) (hz : (txt O A t.list).length + l.length ≤ 1048575) (hA : A.length + l.length ≤ 1048576) (hx : x ≤ (txt O A t.list).length) (he : 0 ≤ e ∧ e ≤ 4611686018427387904) (hv : Ab.Rd W (.slice ao l.length c) l) :
    Calls Tryz.prog 43 #[.pointer (some ⟨sb, 0, none⟩), .int .i64 (x : Int), .slice ao l.length c] W fun e' w' => (∃ r, e' = .returned r) ∧ ∃ t', PuR O A l t x t' ∧ LiveT w w' base sb bb vo va0 O (A ++ l) t' (cnt l.length e) ∧ Stay W w' sb := by
  obtain ⟨⟨va, a, h1, h2, h3, h5⟩, hc⟩ := h
  rcases Nat.eq_zero_or_pos l.length with hl | hl
  · obtain rfl : l = [] := List.length_eq_zero_iff.1 hl
    refine (putIn_none _ _ ao c W).mono ?_
    rintro e' w' ⟨hr, hb⟩
    exact ⟨hr, t, rfl, by rw [List.append_nil]; exact ⟨⟨va, a, h1.keep hb, h2, h3, h5⟩, hc.below hb⟩, Stay.of_below hb sb⟩
  · have hb := txt_len h3
    rw [← byt_list] at hb
    obtain ⟨ad, rfl⟩ : ∃ ad, ao = some ad := by
      rcases hv with ⟨hv, hn⟩ | ⟨ad, _, hv, _⟩
      · rw [hn] at hl; simp at hl
      · cases hv; exact ⟨ad, rfl⟩
    refine (putIn_some sb bb vo va O A t a e base ad c l x W h1 h2.1 h3 hz hA hv (by simp; intro h; subst h; simp at hl) (by omega) (by omega) he).mono ?_
    rintro e' w' ⟨hr, a', va', t', hp, hs, hch, ho⟩
    obtain ⟨o1, o2, o3⟩ := hp.ok h2.1 h3 (fun h => by subst h; simp at hl) hz hA
    have hlen := hp.len
    have hlen2 := h2.2
    refine ⟨hr, t', ?_, ?_, Stay.of_chg h1 hch⟩
    · unfold PuR; rw [if_neg (by omega)]; exact hp
    · unfold cnt
      rw [if_neg (by omega)]
      refine ⟨⟨va', a', hs, ⟨o1, by omega⟩, o2, ?_⟩, hc.trans hch h5⟩
      rcases ho with ho | ⟨q, hq, hq2⟩
      · rw [ho]; exact h5
      · exact .inr ⟨q, hq, Nat.le_trans hc.size hq2⟩

end Go.Proofs.YtmhpeppbhjpkiaaGreat

/- The contract of a sheet's Apply, told by trees. -/
namespace Go.Proofs.YtmhpeppbhjpkiaaGreat
open Go.RowKit

variable {K : List (Nat × Obj)}
/-- blocks hold what they held -/
def Held (K : List (Nat × Obj)) (W : World) : Prop := ∀ p ∈ K, W.heap[p.1]? = some p.2
/-- edits in memory, wherever these blocks hold -/
def EdK (K : List (Nat × Obj)) (ao : Option Addr) (es : List Ed) : Prop := ∀ (i : Nat) (d : Ed), es[i]? = some d → ∃ g o a1 c1 a2 c2, ao = some ⟨g, o, none⟩ ∧ ∀ W, Held K W → W.cell? ⟨g, o + i * 3, none⟩ = some (.int .i64 d.at') ∧ W.cell? ⟨g, o + i * 3 + 1, none⟩ = some (.slice a1 d.old.length c1) ∧ W.cell? ⟨g, o + i * 3 + 2, none⟩ = some (.slice a2 d.new.length c2) ∧ Ab.Rd W (.slice a1 d.old.length c1) d.old ∧ Ab.Rd W (.slice a2 d.new.length c2) d.new
theorem LiveT.wh {w W : World} {base sb bb : Nat} {vo va0 : Value} {O A : List UInt8} {t : Tr} {e : Int} (h : LiveT w W base sb bb vo va0 O A t e) : t.whole ∧ Gds O A t.list := by
  obtain ⟨⟨va, a, h1, h2, h3, h5⟩, hc⟩ := h
  exact ⟨h2.1, h3⟩
/-- what Apply leaves -/
def ApGT (K : List (Nat × Obj)) (w0 w' : World) (sb : Nat) (O A : List UInt8) (t : Tr) (e : Int) (r : Option (List UInt8 × Tr × Int)) : Prop := match r with
  | some x => LzT K w0 w' sb O x.1 x.2.1 x.2.2
  | none => LzT K w0 w' sb O A t e
/-- what Apply answers -/
def apV (r : Option (List UInt8 × Tr × Int)) : Int := if r.isSome then 0 else 170
set_option maxRecDepth 8000 in
set_option maxHeartbeats 2000000 in
theorem Apply_tr (w0 : World) (sb : Nat) (O A : List UInt8) (t : Tr) (e : Int) (ao : Option Addr) (c : Nat) (es : List Ed) (W : World) (hL : LzT K w0 W sb O A t e) (hE : Hid (EdK K ao es)) (hO : O.length ≤ 1048576) (hz : Hid ((txt O A t.list).length + nsum es ≤ 1048574)) (hA : Hid (A.length + nsum es ≤ 1048576)) (hold : Hid (∀ d ∈ es, d.old.length ≤ 1048576)) (he : Hid (0 ≤ e ∧ e + 2 * es.length ≤ 4611686018427387904)) (hm : Hid (es.length ≤ 1048576)) :
    Calls Tryz.prog 37 #[.pointer (some ⟨sb, 0, none⟩), .slice ao es.length c] W fun e' w' => ∃ r, ApR O A t e es r ∧ e' = .returned (.int .i64 (apV r)) ∧ ApGT K w0 w' sb O A t e r := by
  obtain ⟨⟨bb, vo, va, a, hS, hw, hg⟩, hb0⟩ := hL
  have HS := hid hS
  have HW := hid hw.1
  have HK := hid hw.2
  have HG := hid hg
  have B0 := hid hb0
  clear hw hg hb0
  have HZ := hid (fun W' (hW : Below W.heap.size W W') => Ab.size_any (some ⟨bb, 0, none⟩) 1 O A w0.heap.size W' (hid (hS.keep hW).shb.buf))
  obtain ⟨c0, c1, c2, _, _, _⟩ := sh_cells hS.here
  have hlt : sb < W.heap.size := sh_lt hS.here
  have hmm : (es.length : Int) ≤ 1048576 := by have := hm.out; omega
  clear hS
  go_enter Tryz.func37, Tryz.ntmps37
  go_wp2_with fail
  go_region_held3 (fun w' => w'.cell? ⟨sb, 0, none⟩ = some (.pointer (some ⟨bb, 0, none⟩)) ∧ w'.cell? ⟨sb, 1, none⟩ = some (.pointer a) ∧ w'.cell? ⟨sb, 2, none⟩ = some (.int .i64 e)) (first | assumption | go_keep)
    (first | (go_at_call 70; refine (HZ.out _ (by first | exact (Below.refl _ _).drew | exact (bAlloc (Below.refl _ _) _).drew | exact ((((bAlloc (Below.refl _ _) _).setCell (Nat.le_refl _) _).setCell (Nat.le_refl _) _).setCell (Nat.le_refl _) _).drew)).mono ?_; rintro e9 w9 ⟨rfl, hw9⟩; have hq9 := hw9.symm; subst hq9; simp only [Ab.which]) | fail)
  all_goals
    obtain ⟨W1, hW1⟩ : ∃ X, X = (W.alloc (.cells #[.pointer (some ⟨bb, 0, none⟩), .pointer a, .int .i64 e] 55)).drew := ⟨_, rfl⟩
    have b1 : Below W.heap.size W W1 := by rw [hW1]; exact (bAlloc (Below.refl _ _) _).drew
    have hwas : W1.heap[W.heap.size]? = some (.cells #[.pointer (some ⟨bb, 0, none⟩), .pointer a, .int .i64 e] 55 (0, 0)) := by
      rw [hW1]
      show (W.heap.push _)[W.heap.size]? = _
      simp
    have HWAS := hid hwas
    have L1 := hid (show LiveT W W1 w0.heap.size sb bb vo va O (A ++ []) t e from (LiveT.keep ⟨⟨va, a, (by rw [List.append_nil]; exact HS.out), HW.out, (by rw [List.append_nil]; exact HG.out), .inl rfl⟩, Chg.of_below (Below.refl _ _) _ _ _⟩ b1))
    have BW1 := hid b1
    rw [← hW1]
    clear hW1 hwas b1 c0 c1 c2 HZ
    go_wp2_with fail
    go_loopw [21] (fun u wr => ∃ (i : Nat) (B T' : List UInt8) (t' : Tr) (e2 : Int), u = .int .i64 i ∧ i ≤ es.length ∧ LiveT W wr w0.heap.size sb bb vo va O (A ++ B) t' e2 ∧ (txt O (A ++ B) t'.list = T' ∧ ∀ r, ApR O (A ++ B) t' e2 (es.drop i) r → ApR O A t e es r) ∧ T'.length + nsum (es.drop i) ≤ 1048574 ∧ B.length + nsum (es.drop i) = nsum es ∧ e ≤ e2 ∧ e2 ≤ e + 2 * i ∧ Stay W1 wr sb) (fun u _ => es.length - (intOf u).toNat)
    case atStart => exact ⟨0, [], txt O A t.list, t, e, rfl, Nat.zero_le _, L1.out, ⟨by rw [List.append_nil], fun r h => by rw [List.append_nil] at h; exact h⟩, hz.out, by simp, Int.le_refl _, by simp, Stay.of_below (Below.refl _ _) _⟩
    case round =>
      obtain ⟨i, B, T', t', e2, rfl, hi, hL, ⟨htt, hap⟩, hT', hB', he1, he2, hst⟩ := hrel
      have HTT := hid htt
      clear htt
      have HL := hid hL
      have HAP := hid hap
      have HST := hid hst
      have HBS := hid hB'
      clear hL hap hst hB'
      have hi0 : (0 : Int) ≤ (i : Int) := by omega
      have LZ := hid (HL.out.lz B0.out HS.out.buf.added HK.out)
      by_cases hlt' : i < es.length
      · obtain ⟨d, hd⟩ : ∃ d, es[i]? = some d := ⟨es[i], List.getElem?_eq_getElem hlt'⟩
        obtain ⟨g, o, a1, c1, a2, c2, rfl, hEK⟩ := hE.out i d hd
        have EK := hid hEK
        obtain ⟨x0, x1, x2, r1, r2⟩ := hEK wr (fun _ hp => LZ.out.held hp)
        clear hEK
        have BZ := hid LZ.out.bel
        have hsz := HL.out.chg.size
        have HN := hid (nsum_drop hd)
        have HD := hid hd
        have hod := hold.out d (List.mem_of_getElem? hd)
        have R1 := hid r1
        have R2 := hid r2
        clear r1 r2 hd
        have him : (i : Int) < (es.length : Int) := by omega
        have FT := hid (fun (X : Obj) => (show Calls Tryz.prog 71 #[.pointer (some ⟨sb, 0, none⟩), .agg #[.int .i64 d.at', .slice a1 d.old.length c1, .slice a2 d.new.length c2]] (wr.alloc X) fun e' w' => e' = .returned (.bool (edB T' d)) ∧ Below (wr.alloc X).heap.size (wr.alloc X) w' by
          obtain ⟨⟨va', a', h1, h2, h3, h5⟩, hc⟩ := HL.out
          have h := fits_any sb bb vo va' O (A ++ B) t' a' e2 w0.heap.size d.at' a1 c1 d.old (.slice a2 d.new.length c2) _ (h1.keep (bAlloc (Below.refl _ _) X)) h2.1 h3 (by have := HN.out; rw [HTT.out]; unfold Hid; omega) (hid (R1.out.keep (bAlloc (Below.refl _ _) X))) (by omega)
          rw [HTT.out] at h
          exact h))
        go_wp2_with fail
        refine (FT.out _).mono ?_
        rintro e9 w2 ⟨rfl, hb2⟩
        have b2 := bTl (bAlloc (Below.refl wr.heap.size wr) _) hb2
        have hz2 : wr.heap.size < w2.heap.size := by have := hb2.size; simp at this; omega
        have HY := hid (show w2.heap[wr.heap.size]? = some (.cells #[.int .i64 d.at', .slice a1 d.old.length c1, .slice a2 d.new.length c2] 83 (0, 0)) by
          rw [hb2.block _ (by simp)]
          show (wr.heap.push _)[wr.heap.size]? = _
          simp)
        obtain ⟨y0, y1, y2⟩ := tri_cells HY.out
        have L2 := hid (HL.out.keep b2)
        have S2 := hid (HST.out.trans (Stay.of_below b2 sb))
        clear hb2 x0 x1 x2 LZ HL HST FT
        have B2 := hid b2
        clear b2
        cases hf : edB T' d with
        | true =>
          have hfit := of_decide_eq_true hf
          obtain ⟨x, hx⟩ : ∃ x : Nat, d.at' = x := ⟨d.at'.toNat, by omega⟩
          have hxl : x + d.old.length ≤ T'.length := by omega
          have HDL := hid (edT_len hf)
          have HPF := hid hf
          have HX := hid hx
          obtain ⟨hwt, hgt⟩ := LiveT.wh L2.out
          have HWT := hid hwt
          have HGT := hid hgt
          clear hwt hgt
          have HXE := hid (show edT T' d = (T'.take x ++ T'.drop (x + d.old.length)).take x ++ (d.new ++ (T'.take x ++ T'.drop (x + d.old.length)).drop x) by
            unfold edT
            rw [hx, Int.toNat_natCast]
            have hk : (T'.take x).length = x := by rw [List.length_take]; omega
            rw [List.take_left' hk, List.drop_left' hk])
          rw [hx] at y0 HY
          clear hf hfit hx
          have hx1 : (x : Int) ≤ 1048576 := by omega
          have ho1 : (d.old.length : Int) ≤ 1048576 := by omega
          have hnn := HN.out
          have hbb := HBS.out
          have haa := hA.out
          go_wp2_with fail
          rw [show (x : Int) + (d.old.length : Int) = ((x + d.old.length : Nat) : Int) from by omega]
          refine (takeOut_tr x d.old.length L2.out (by rw [HTT.out]; omega) (by rw [HTT.out]; exact hxl) (by have := he.out; omega)).mono ?_
          rintro e9 w3 ⟨⟨r9, rfl⟩, t1, hOu, hL3, hS3⟩
          have HOU := hid hOu
          obtain ⟨hwt, hgt, htx, _⟩ := hOu.ok HWT.out HGT.out (by rw [HTT.out]; omega) (by omega)
          rw [HTT.out, Int.toNat_natCast] at htx
          have HT1 := hid htx
          have HW1 := hid hwt
          have HG1 := hid hgt
          clear hOu hwt hgt htx
          have L3 := hid hL3
          obtain ⟨e3, he3⟩ : ∃ e3, cnt d.old.length e2 = e3 := ⟨_, rfl⟩
          have HE2 := hid (show 0 ≤ e3 ∧ e2 ≤ e3 ∧ e3 ≤ e2 + 1 by have := he.out; have := cnt_le d.old.length e2; omega)
          have Y3 := hid (hS3 _ _ 83 (by decide) (by omega) HY.out)
          have S3 := hid (S2.out.trans hS3)
          have LZ3 := hid (L3.out.lz B0.out HS.out.buf.added HK.out)
          clear hL3 hS3 y0 y1 y2 L2 S2
          obtain ⟨y0, y1, y2⟩ := tri_cells Y3.out
          rw [he3] at L3
          have HC3 := hid he3
          clear he3
          have q1 : (T'.take x ++ T'.drop (x + d.old.length)).length = T'.length - d.old.length := by rw [List.length_append, List.length_take, List.length_drop]; omega
          have q2 : (A ++ B).length = A.length + B.length := List.length_append
          have q3 : 0 ≤ e3 ∧ e3 ≤ 4611686018427387904 := by have h1 := he.out; have h2 := HE2.out; omega
          have PT := hid (putIn_tr x a2 c2 d.new L3.out (by rw [HT1.out, q1]; omega) (by rw [q2]; omega) (by rw [HT1.out, q1]; omega) q3 (EK.out w3 (fun _ hp => LZ3.out.held hp)).2.2.2.2)
          have HQ1 := hid q1
          have HQ2 := hid q2
          clear q1 q2 q3
          go_wp2_with fail
          refine PT.out.mono ?_
          rintro e9 w4 ⟨⟨r8, rfl⟩, t2, hPu, hL4, hS4⟩
          obtain ⟨_, _, htx, _⟩ := hPu.ok HW1.out HG1.out (by rw [HT1.out, HQ1.out]; omega) (by rw [HQ2.out]; omega)
          rw [HT1.out, Int.toNat_natCast, ← HXE.out, List.append_assoc] at htx
          have HT2 := hid htx
          obtain ⟨e4, he4⟩ : ∃ e4, cnt d.new.length e3 = e4 := ⟨_, rfl⟩
          have HE3 := hid (show e3 ≤ e4 ∧ e4 ≤ e3 + 1 by have := cnt_le d.new.length e3; omega)
          have HED : Hid (EdR O (A ++ B) t' e2 d (A ++ (B ++ d.new)) t2 e4) := ⟨t1, by rw [HX.out]; exact HOU.out, by rw [HX.out]; exact hPu, (List.append_assoc _ _ _).symm, by rw [HC3.out, he4]⟩
          rw [List.append_assoc, he4] at hL4
          clear hPu htx he4
          have L4 := hid hL4
          have S4 := hid (S3.out.trans hS4)
          clear hL4 hS4 y0 y1 y2 L3 S3
          have hdl := HDL.out
          go_wp2
          go_roundw
          case rel => exact ⟨i + 1, B ++ d.new, edT T' d, t2, e4, by go_num, by omega, L4.out, ⟨HT2.out, fun r hr => HAP.out r (ApR.step HD.out (by rw [HTT.out]; exact HPF.out) HED.out hr)⟩, by omega, by rw [List.length_append]; omega, by have := HE2.out; have := HE3.out; omega, by have := HE2.out; have := HE3.out; omega, S4.out⟩
          case measure => first | (simp [intOf]; done) | (simp [intOf]; omega)
        | false =>
          have HF := hid (HAP.out none (ApR.stop HD.out (by rw [HTT.out]; exact hf)))
          clear hf
          obtain ⟨⟨va2, a2', k1, k2, k3, k5⟩, kc⟩ := L2.out
          have KP := hid ((HK.out.1.chg kc k5).set3 (.pointer (some ⟨bb, 0, none⟩)) (.pointer a) (.int .i64 e))
          have K1 := hid k1
          have WAS := hid (S2.out _ _ 55 (by decide) (by omega) HWAS.out)
          have AT2 := hid (Stay.at (HS.out.keep BW1.out) S2.out (HS.out.keep BW1.out).tree)
          have BZ2 := hid (L2.out.lz B0.out HS.out.buf.added HK.out).bel
          have SB := hid (sh_back k1 e AT2.out)
          have BB := hid (fun x' y' z' => below_set3 (x' := x') (y' := y') (z' := z') k1.here BZ2.out k1.lo)
          obtain ⟨v0, v1, v2⟩ := tri_cells WAS.out
          obtain ⟨_, _, _, f0, f1, f2⟩ := sh_cells k1.here
          clear k1 k2 k3 k5 kc y0 y1 y2
          go_wp2_with fail
          rcases Nat.eq_zero_or_pos B.length with hB0 | hB0
          · obtain rfl : B = [] := List.length_eq_zero_iff.1 hB0
            have SB' := SB.out
            rw [List.append_nil] at SB'
            refine (forget_same sb bb vo va2 O A t a e w0.heap.size _ SB').mono ?_
            rintro e9 w5 ⟨⟨r7, rfl⟩, hb5⟩
            have FIN := hid (show LzT K w0 w5 sb O A t e from LzT.keep ⟨⟨bb, vo, va2, a, SB', ⟨HW.out, KP.out, HK.out.2⟩, HG.out⟩, BB.out _ _ _⟩ hb5)
            clear SB' hb5
            go_wp2
            go_ret
            exact ⟨none, HF.out, rfl, FIN.out⟩
          · have hbb := HBS.out
            have haa := hA.out
            refine (forget_more sb bb vo va2 O A B t a e w0.heap.size _ SB hO (by omega) hB0).mono ?_
            rintro e9 w5 ⟨⟨r7, rfl⟩, bb5, vo5, va5, s5, k1, k2, k3, k4, k5, k6, k7, k8⟩
            have bz := BB.out (.pointer (some ⟨bb, 0, none⟩)) (.pointer a) (.int .i64 e)
            have FIN := hid (show LzT K w0 w5 sb O A t e from ⟨⟨bb5, vo5, va5, a, s5, ⟨HW.out, ⟨fun p hp => by
              obtain ⟨p1, p2, p3, p4⟩ := KP.out p hp
              have pl := heap_lt p1
              exact ⟨(k8 _ pl p2).trans p1, p2, by omega, fun e => by have := k6 _ e; omega⟩, fun p hp e => by have := k7 _ e; have := heap_lt (KP.out p hp).1; omega⟩⟩, HG.out⟩, ⟨k1.trans bz.os, k2.trans bz.tape, k3.trans bz.output, Nat.le_trans bz.size k4, fun k hk => (k8 k (Nat.lt_of_lt_of_le hk bz.size) (by have := s5.lo; omega)).trans (bz.block k hk)⟩⟩)
            clear s5 k1 k2 k3 k4 k5 k6 k7 k8 bz
            go_wp2
            go_ret
            exact ⟨none, HF.out, rfl, FIN.out⟩
      · obtain rfl : i = es.length := by omega
        have him : ¬ ((es.length : Int) < (es.length : Int)) := by omega
        have HF := hid (HAP.out (some (A ++ B, t', e2)) (by rw [List.drop_length]; rfl))
        go_wp2
        go_ret
        exact ⟨_, HF.out, rfl, LZ.out⟩

end Go.Proofs.YtmhpeppbhjpkiaaGreat

