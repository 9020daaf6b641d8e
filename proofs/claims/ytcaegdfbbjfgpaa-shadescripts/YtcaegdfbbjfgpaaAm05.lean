/- Rows gone through from the back: plain data; when they make one whole tree. -/
import Derived.Test.YtcaegdfbbjfgpaaAm04
namespace Go.Proofs.Ytcaegdfbbjfgpaa
open Go.RowKit

/-- one kid taken off the trees that stand ahead -/
def popF (b : Bool) (F : List Tr) : Option (Tr × List Tr) :=
  if b = true then (match F with
    | [] => none
    | t :: F => some (t, F)) else some (Tr.mk none, F)
/-- one row more, ahead of the trees that stand behind it -/
def stepF (x : Rw) (F : List Tr) : Option (List Tr) :=
  match popF x.left F with
  | none => none
  | some (l, F1) => match popF x.right F1 with
    | none => none
    | some (r, F2) => if fitB x.p.l x.p.n = true ∧ balB x.red l r = true ∧ x.cnt = ((Tr.mk (some (x.red, l, x.p, r))).size : Nat) ∧ x.byt = (Tr.mk (some (x.red, l, x.p, r))).byt ∧ x.lin = (Tr.mk (some (x.red, l, x.p, r))).lin then some (Tr.mk (some (x.red, l, x.p, r)) :: F2) else none
def lookF : List Rw → Option (List Tr)
  | [] => some []
  | x :: L => match lookF L with
    | none => none
    | some F => stepF x F

/-- a list of trees, none empty, red-black, of fit pieces -/
def GoodF (F : List Tr) : Prop := ∀ t ∈ F, t.has = true ∧ t.bal ∧ t.fits
def rowsF (F : List Tr) : List Rw := F.flatMap rowsT

theorem popF_ok {b : Bool} {F F1 : List Tr} {l : Tr} (h : popF b F = some (l, F1)) (hg : GoodF F) : l.has = b ∧ l.bal ∧ l.fits ∧ GoodF F1 ∧ rowsF F = rowsT l ++ rowsF F1 := by
  unfold popF at h
  split at h
  · rename_i hb
    cases F with
    | nil => cases h
    | cons t F =>
      simp at h
      obtain ⟨rfl, rfl⟩ := h
      have := hg t (List.mem_cons_self ..)
      exact ⟨by rw [this.1, hb], this.2.1, this.2.2, fun u hu => hg u (List.mem_cons_of_mem _ hu), by simp [rowsF]⟩
  · rename_i hb
    simp at h
    obtain ⟨rfl, rfl⟩ := h
    exact ⟨by simp at hb; rw [hb]; rfl, trivial, trivial, hg, by simp [rowsT]⟩

theorem lookF_ok : ∀ (L : List Rw) (F : List Tr), lookF L = some F → GoodF F ∧ L = rowsF F
  | [], F, h => by
    simp [lookF] at h; subst h
    exact ⟨fun t ht => by simp at ht, rfl⟩
  | x :: L, F, h => by
    simp only [lookF] at h
    cases e : lookF L with
    | none => rw [e] at h; cases h
    | some G =>
      rw [e] at h
      simp only at h
      obtain ⟨g1, g2⟩ := lookF_ok L G e
      unfold stepF at h
      cases e1 : popF x.left G with
      | none => rw [e1] at h; cases h
      | some q =>
        obtain ⟨l, F1⟩ := q
        rw [e1] at h; simp only at h
        obtain ⟨a1, a2, a3, a4, a5⟩ := popF_ok e1 g1
        cases e2 : popF x.right F1 with
        | none => rw [e2] at h; cases h
        | some q =>
          obtain ⟨r, F2⟩ := q
          rw [e2] at h; simp only at h
          obtain ⟨b1, b2, b3, b4, b5⟩ := popF_ok e2 a4
          split at h
          · rename_i hc
            simp at h; subst h
            have hb := balB_iff.1 hc.2.1
            refine ⟨?_, ?_⟩
            · intro t ht
              rcases List.mem_cons.1 ht with rfl | ht
              · exact ⟨rfl, ⟨a2, b2, hb.1, hb.2⟩, ⟨a3, (fitB_iff x.p.s x.p.o x.p.l x.p.n).1 hc.1, b3⟩⟩
              · exact b4 t ht
            · rw [g2, a5, b5]
              simp only [rowsF, List.flatMap_cons, rowsT]
              have ex : rowOf x.red l x.p r = x := by
                unfold rowOf
                rw [a1, b1, ← hc.2.2.1, ← hc.2.2.2.1, ← hc.2.2.2.2]
              rw [ex]; simp
          · cases h

theorem lookF_rows : ∀ (t : Tr) (L : List Rw) (F : List Tr), t.bal → t.fits → lookF L = some F → lookF (rowsT t ++ L) = some (if t.has = true then t :: F else F)
  | Tr.mk none, L, F, _, _, h => by simpa [rowsT, Tr.has] using h
  | Tr.mk (some (c, l, p, r)), L, F, hb, hf, h => by
    have hr := lookF_rows r L F hb.2.1 hf.2.2 h
    have hl := lookF_rows l (rowsT r ++ L) _ hb.1 hf.1 hr
    simp only [rowsT, List.cons_append, List.append_assoc, lookF]
    rw [hl]
    simp only
    unfold stepF
    have e1 : (rowOf c l p r).left = l.has := rfl
    have e2 : (rowOf c l p r).right = r.has := rfl
    have p1 : popF l.has (if l.has = true then l :: (if r.has = true then r :: F else F) else (if r.has = true then r :: F else F)) = some (l, if r.has = true then r :: F else F) := by
      unfold popF
      cases l using Tr.el with
      | nil => rfl
      | node c' l' p' r' => rfl
    have p2 : popF r.has (if r.has = true then r :: F else F) = some (r, F) := by
      unfold popF
      cases r using Tr.el with
      | nil => rfl
      | node c' l' p' r' => rfl
    rw [e1, p1]
    simp only
    rw [e2, p2]
    simp only
    rw [if_pos ⟨(fitB_iff p.s p.o p.l p.n).2 hf.2.1, balB_iff.2 ⟨hb.2.2.1, hb.2.2.2⟩, rfl, rfl, rfl⟩]
    rfl

/-- the reference's answer -/
def okF : Option (List Tr) → Bool
  | some [] => true
  | some [t] => !t.red
  | _ => false

theorem check_look {L : List Rw} (hz : L.length ≤ 1048576) : checkB L = okF (lookF L) := by
  rw [Bool.eq_iff_iff, checkB_iff hz]
  constructor
  · rintro ⟨t, h1, h2, rfl⟩
    have k := lookF_rows t [] [] h1.1 h2 rfl
    rw [List.append_nil] at k
    rw [k]
    cases t using Tr.el with
    | nil => rfl
    | node c l p r =>
      have := h1.2
      simp [Tr.has, okF, this]
  · intro h
    cases e : lookF L with
    | none => rw [e] at h; cases h
    | some F =>
      rw [e] at h
      obtain ⟨g1, g2⟩ := lookF_ok L F e
      match F, h, g1, g2 with
      | [], _, _, g2 => exact ⟨Tr.mk none, ⟨trivial, rfl⟩, trivial, by rw [g2]; rfl⟩
      | [t], h, g1, g2 =>
        have := g1 t (List.mem_cons_self ..)
        exact ⟨t, ⟨this.2.1, by simpa [okF] using h⟩, this.2.2, by rw [g2]; simp [rowsF]⟩
end Go.Proofs.Ytcaegdfbbjfgpaa

