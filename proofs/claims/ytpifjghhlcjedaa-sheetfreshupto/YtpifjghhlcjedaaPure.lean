/- Trees of pieces as plain data: joining, splitting, building; that all trees so made are red-black and hold the lists that they should. -/
import Derived.Test.YtpifjghhlcjedaaTree
namespace Go.Proofs.Ytpifjghhlcjedaa
open Go.RowKit

namespace Tr
theorem size_list : ∀ t : Tr, t.list.length = t.size
  | (Tr.mk none) => rfl
  | (Tr.mk (some (c, l, p, r))) => by simp only [list, size, List.length_append, List.length_cons, size_list l, size_list r]; omega
theorem fits_list : ∀ t : Tr, t.fits ↔ ∀ p ∈ t.list, p.fit
  | (Tr.mk none) => by simp [fits, list]
  | (Tr.mk (some (c, l, p, r))) => by
    simp only [fits, list, fits_list l, fits_list r, List.mem_append, List.mem_cons]
    constructor
    · rintro ⟨h1, h2, h3⟩ q (h | rfl | h)
      · exact h1 q h
      · exact h2
      · exact h3 q h
    · intro h
      exact ⟨fun q hq => h q (.inl hq), h p (.inr (.inl rfl)), fun q hq => h q (.inr (.inr hq))⟩
theorem fine_list (t : Tr) : t.fine ↔ (∀ p ∈ t.list, p.fit) ∧ t.list.length ≤ 1048576 := by
  unfold fine; rw [fits_list, size_list]

/-- the root made black -/
def blk : Tr → Tr
  | (Tr.mk (some (true, l, p, r))) => (Tr.mk (some (false, l, p, r)))
  | t => t
theorem blk_list (t : Tr) : t.blk.list = t.list := by
  cases t using Tr.el with
  | nil => rfl
  | node c l p r => cases c <;> rfl
theorem blk_red (t : Tr) : t.blk.red = false := by
  cases t using Tr.el with
  | nil => rfl
  | node c l p r => cases c <;> rfl
theorem blk_black {t : Tr} (h : t.red = false) : t.blk = t := by
  cases t using Tr.el with
  | nil => rfl
  | node c l p r => cases c with
    | false => rfl
    | true => simp [red] at h

/-- a (Tr.mk (some (above, a, tree, m))) on its right, two reds put straight -/
def fixR (c : Bool) (a : Tr) (q : Pc) (m : Tr) : Tr :=
  match c, m with
  | false, (Tr.mk (some (true, x, s, ((Tr.mk (some (true, y, t, z))))))) => (Tr.mk (some (true, ((Tr.mk (some (false, a, q, x)))), s, ((Tr.mk (some (false, y, t, z)))))))
  | c, m => (Tr.mk (some (c, a, q, m)))
def fixL (c : Bool) (m : Tr) (q : Pc) (b : Tr) : Tr :=
  match c, m with
  | false, (Tr.mk (some (true, ((Tr.mk (some (true, y, t, z)))), s, x))) => (Tr.mk (some (true, ((Tr.mk (some (false, y, t, z)))), s, ((Tr.mk (some (false, x, q, b)))))))
  | c, m => (Tr.mk (some (c, m, q, b)))
def jr (p : Pc) (r : Tr) : Tr → Tr
  | (Tr.mk none) => (Tr.mk (some (true, (Tr.mk none), p, r)))
  | (Tr.mk (some (c, a, q, b))) => if c = false ∧ ((Tr.mk (some (c, a, q, b)))).bh = r.bh then (Tr.mk (some (true, ((Tr.mk (some (c, a, q, b)))), p, r))) else fixR c a q (jr p r b)
def jl (l : Tr) (p : Pc) : Tr → Tr
  | (Tr.mk none) => (Tr.mk (some (true, l, p, (Tr.mk none))))
  | (Tr.mk (some (c, a, q, b))) => if c = false ∧ l.bh = ((Tr.mk (some (c, a, q, b)))).bh then (Tr.mk (some (true, l, p, ((Tr.mk (some (c, a, q, b))))))) else fixL c (jl l p a) q b
def joinT (l : Tr) (p : Pc) (r : Tr) : Tr :=
  if l.bh = r.bh then (Tr.mk (some (false, l, p, r))) else if r.bh < l.bh then (jr p r l).blk else (jl l p r).blk

theorem fixR_list (c : Bool) (a : Tr) (q : Pc) (m : Tr) : (fixR c a q m).list = a.list ++ q :: m.list := by
  unfold fixR; split <;> simp [list]
theorem fixL_list (c : Bool) (m : Tr) (q : Pc) (b : Tr) : (fixL c m q b).list = m.list ++ q :: b.list := by
  unfold fixL; split <;> simp [list]
theorem jr_list (p : Pc) (r : Tr) : ∀ l : Tr, (jr p r l).list = l.list ++ p :: r.list
  | (Tr.mk none) => by simp [jr, list]
  | (Tr.mk (some (c, a, q, b))) => by
    simp only [jr]; split
    · rfl
    · rw [fixR_list, jr_list p r b]; simp [list]
theorem jl_list (l : Tr) (p : Pc) : ∀ r : Tr, (jl l p r).list = l.list ++ p :: r.list
  | (Tr.mk none) => by simp [jl, list]
  | (Tr.mk (some (c, a, q, b))) => by
    simp only [jl]; split
    · rfl
    · rw [fixL_list, jl_list l p a]; simp [list]
theorem joinT_list (l : Tr) (p : Pc) (r : Tr) : (joinT l p r).list = l.list ++ p :: r.list := by
  unfold joinT; split
  · rfl
  · split
    · rw [blk_list, jr_list]
    · rw [blk_list, jl_list]

/-- red-black, whatever the root's colour -/
def bal : Tr → Prop
  | (Tr.mk none) => True
  | (Tr.mk (some (c, l, _, r))) => l.bal ∧ r.bal ∧ l.bh = r.bh ∧ (c = true → l.red = false ∧ r.red = false)
def whole (t : Tr) : Prop := t.bal ∧ t.red = false

theorem blk_whole {t : Tr} (h : t.bal) : t.blk.whole := by
  refine ⟨?_, blk_red t⟩
  cases t using Tr.el with
  | nil => trivial
  | node c l p r => cases c with
    | false => exact h
    | true => exact ⟨h.1, h.2.1, h.2.2.1, by simp⟩

/-- what jr makes of a red-black tree -/
def outR (l m : Tr) : Prop := m.bh = l.bh ∧ (l.red = false → m.bal) ∧ (l.red = true → ∃ a q b, m = (Tr.mk (some (true, a, q, b))) ∧ a.bal ∧ b.bal ∧ a.bh = b.bh ∧ a.red = false)
def outL (r m : Tr) : Prop := m.bh = r.bh ∧ (r.red = false → m.bal) ∧ (r.red = true → ∃ a q b, m = (Tr.mk (some (true, a, q, b))) ∧ a.bal ∧ b.bal ∧ a.bh = b.bh ∧ b.red = false)

theorem fixR_out {a b m : Tr} {q : Pc} (ha : a.bal) (hab : a.bh = b.bh) (h : outR b m) : (fixR false a q m).bal ∧ (fixR false a q m).bh = a.bh + 1 := by
  obtain ⟨h0, h1, h2⟩ := h
  match m, h0, h1, h2 with
  | (Tr.mk (some (true, x, s, ((Tr.mk (some (true, y, t, z))))))), h0, h1, h2 =>
    have hx : x.bal ∧ ((Tr.mk (some (true, y, t, z)))).bal ∧ x.bh = ((Tr.mk (some (true, y, t, z)))).bh := by
      cases hb : b.red with
      | false => exact absurd ((h1 hb).2.2.2 rfl).2 (by simp [red])
      | true =>
        obtain ⟨a', q', b', e, p1, p2, p3, -⟩ := h2 hb
        obtain ⟨-, e1, -, e2⟩ := Tr.inj e; subst e1 e2; exact ⟨p1, p2, p3⟩
    obtain ⟨x1, x2, x3⟩ := hx
    simp only [fixR, bal, bh, red] at *
    simp at *
    refine ⟨⟨ha, x1, by omega⟩, ⟨x2.1, x2.2.1, x2.2.2.1⟩, by omega⟩
  | (Tr.mk none), h0, h1, h2 =>
    simp only [fixR, bal, bh, red] at *
    simp at *
    exact ⟨ha, by omega⟩
  | (Tr.mk (some (false, x, s, y))), h0, h1, h2 =>
    have hm : ((Tr.mk (some (false, x, s, y)))).bal := by
      cases hb : b.red with
      | false => exact h1 hb
      | true => obtain ⟨a', q', b', e, -⟩ := h2 hb; exact absurd (Tr.inj e).1 (by simp)
    have e : fixR false a q ((Tr.mk (some (false, x, s, y)))) = (Tr.mk (some (false, a, q, ((Tr.mk (some (false, x, s, y))))))) := by cases y <;> rfl
    rw [e]
    exact ⟨⟨ha, hm, by omega, by simp⟩, by simp [bh]⟩
  | (Tr.mk (some (true, x, s, (Tr.mk none)))), h0, h1, h2 =>
    have hm : ((Tr.mk (some (true, x, s, (Tr.mk none))))).bal := by
      cases hb : b.red with
      | false => exact h1 hb
      | true => obtain ⟨a', q', b', e, p1, p2, p3, p4⟩ := h2 hb; obtain ⟨-, e1, -, e2⟩ := Tr.inj e; subst e1 e2; exact ⟨p1, p2, p3, fun _ => ⟨p4, rfl⟩⟩
    exact ⟨⟨ha, hm, by omega, by simp⟩, by simp [fixR, bh]⟩
  | (Tr.mk (some (true, x, s, ((Tr.mk (some (false, y, t, z))))))), h0, h1, h2 =>
    have hm : ((Tr.mk (some (true, x, s, ((Tr.mk (some (false, y, t, z)))))))).bal := by
      cases hb : b.red with
      | false => exact h1 hb
      | true => obtain ⟨a', q', b', e, p1, p2, p3, p4⟩ := h2 hb; obtain ⟨-, e1, -, e2⟩ := Tr.inj e; subst e1 e2; exact ⟨p1, p2, p3, fun _ => ⟨p4, rfl⟩⟩
    exact ⟨⟨ha, hm, by omega, by simp⟩, by simp [fixR, bh]⟩

theorem fixL_out {a b m : Tr} {q : Pc} (hb' : b.bal) (hab : a.bh = b.bh) (h : outL a m) : (fixL false m q b).bal ∧ (fixL false m q b).bh = b.bh + 1 := by
  obtain ⟨h0, h1, h2⟩ := h
  match m, h0, h1, h2 with
  | (Tr.mk (some (true, ((Tr.mk (some (true, y, t, z)))), s, x))), h0, h1, h2 =>
    have hx : ((Tr.mk (some (true, y, t, z)))).bal ∧ x.bal ∧ ((Tr.mk (some (true, y, t, z)))).bh = x.bh := by
      cases hb : a.red with
      | false => exact absurd ((h1 hb).2.2.2 rfl).1 (by simp [red])
      | true =>
        obtain ⟨a', q', b', e, p1, p2, p3, -⟩ := h2 hb
        obtain ⟨-, e1, -, e2⟩ := Tr.inj e; subst e1 e2; exact ⟨p1, p2, p3⟩
    obtain ⟨x1, x2, x3⟩ := hx
    simp only [fixL, bal, bh, red] at *
    simp at *
    refine ⟨⟨⟨x1.1, x1.2.1, x1.2.2.1⟩, ⟨x2, hb', by omega⟩, by omega⟩, by omega⟩
  | (Tr.mk none), h0, h1, h2 =>
    simp only [fixL, bal, bh, red] at *
    simp at *
    exact ⟨⟨hb', by omega⟩, by omega⟩
  | (Tr.mk (some (false, x, s, y))), h0, h1, h2 =>
    have hm : ((Tr.mk (some (false, x, s, y)))).bal := by
      cases hb : a.red with
      | false => exact h1 hb
      | true => obtain ⟨a', q', b', e, -⟩ := h2 hb; exact absurd (Tr.inj e).1 (by simp)
    have e : fixL false ((Tr.mk (some (false, x, s, y)))) q b = (Tr.mk (some (false, ((Tr.mk (some (false, x, s, y)))), q, b))) := by cases x <;> rfl
    rw [e]
    refine ⟨⟨hm, hb', by omega, by simp⟩, ?_⟩
    simp only [bh] at *; simp at *; omega
  | (Tr.mk (some (true, (Tr.mk none), s, x))), h0, h1, h2 =>
    have hm : ((Tr.mk (some (true, (Tr.mk none), s, x)))).bal := by
      cases hb : a.red with
      | false => exact h1 hb
      | true => obtain ⟨a', q', b', e, p1, p2, p3, p4⟩ := h2 hb; obtain ⟨-, e1, -, e2⟩ := Tr.inj e; subst e1 e2; exact ⟨p1, p2, p3, fun _ => ⟨rfl, p4⟩⟩
    refine ⟨⟨hm, hb', by omega, by simp⟩, ?_⟩
    simp only [fixL, bh] at *; simp at *; omega
  | (Tr.mk (some (true, ((Tr.mk (some (false, y, t, z)))), s, x))), h0, h1, h2 =>
    have hm : ((Tr.mk (some (true, ((Tr.mk (some (false, y, t, z)))), s, x)))).bal := by
      cases hb : a.red with
      | false => exact h1 hb
      | true => obtain ⟨a', q', b', e, p1, p2, p3, p4⟩ := h2 hb; obtain ⟨-, e1, -, e2⟩ := Tr.inj e; subst e1 e2; exact ⟨p1, p2, p3, fun _ => ⟨rfl, p4⟩⟩
    refine ⟨⟨hm, hb', by omega, by simp⟩, ?_⟩
    simp only [fixL, bh] at *; simp at *; omega

theorem fixR_true (a : Tr) (q : Pc) (m : Tr) : fixR true a q m = (Tr.mk (some (true, a, q, m))) := by unfold fixR; rfl
theorem fixL_true (m : Tr) (q : Pc) (b : Tr) : fixL true m q b = (Tr.mk (some (true, m, q, b))) := by unfold fixL; rfl

theorem jr_out (p : Pc) {r : Tr} (hr : r.bal) (hred : r.red = false) : ∀ l : Tr, l.bal → r.bh ≤ l.bh → outR l (jr p r l)
  | (Tr.mk none), _, h => by
    simp only [jr, outR, bal, bh, red] at *
    simp
    exact ⟨hr, by omega, hred⟩
  | (Tr.mk (some (false, a, q, b))), ⟨h1, h2, h3, _⟩, h => by
    simp only [jr]
    split
    · rename_i hc
      refine ⟨by simp [bh], fun _ => ⟨⟨h1, h2, h3, by simp⟩, hr, hc.2, fun _ => ⟨rfl, hred⟩⟩, by simp [red]⟩
    · rename_i hc
      have hb : r.bh ≤ b.bh := by simp [bh] at h hc; omega
      have k := fixR_out (q := q) h1 h3 (jr_out p hr hred b h2 hb)
      refine ⟨by rw [k.2]; simp [bh], fun _ => k.1, by simp [red]⟩
  | (Tr.mk (some (true, a, q, b))), ⟨h1, h2, h3, h4⟩, h => by
    simp only [jr]
    rw [if_neg (by simp), fixR_true]
    have hb : r.bh ≤ b.bh := by simp [bh] at h; omega
    obtain ⟨k1, k2, -⟩ := jr_out p hr hred b h2 hb
    refine ⟨by simp [bh], by simp [red], fun _ => ⟨a, q, _, rfl, h1, k2 (h4 rfl).2, by omega, (h4 rfl).1⟩⟩

theorem jl_out (p : Pc) {l : Tr} (hl : l.bal) (hred : l.red = false) : ∀ r : Tr, r.bal → l.bh ≤ r.bh → outL r (jl l p r)
  | (Tr.mk none), _, h => by
    simp only [jl, outL, bal, bh, red] at *
    simp
    exact ⟨by omega, hl, by omega, hred⟩
  | (Tr.mk (some (false, a, q, b))), ⟨h1, h2, h3, _⟩, h => by
    simp only [jl]
    split
    · rename_i hc
      refine ⟨by have := hc.2; simp [bh] at this ⊢; omega, fun _ => ⟨hl, ⟨h1, h2, h3, by simp⟩, hc.2, fun _ => ⟨hred, rfl⟩⟩, by simp [red]⟩
    · rename_i hc
      have hb : l.bh ≤ a.bh := by simp [bh] at h hc; omega
      have k := fixL_out (q := q) h2 h3 (jl_out p hl hred a h1 hb)
      refine ⟨by rw [k.2]; simp [bh]; omega, fun _ => k.1, by simp [red]⟩
  | (Tr.mk (some (true, a, q, b))), ⟨h1, h2, h3, h4⟩, h => by
    simp only [jl]
    rw [if_neg (by simp), fixL_true]
    have hb : l.bh ≤ a.bh := by simp [bh] at h; omega
    obtain ⟨k1, k2, -⟩ := jl_out p hl hred a h1 hb
    refine ⟨by simp [bh]; omega, by simp [red], fun _ => ⟨_, q, b, rfl, k2 (h4 rfl).1, h2, by omega, (h4 rfl).2⟩⟩

theorem joinT_whole {l r : Tr} (p : Pc) (hl : l.whole) (hr : r.whole) : (joinT l p r).whole := by
  unfold joinT; split
  · rename_i h; exact ⟨⟨hl.1, hr.1, h, by simp⟩, rfl⟩
  · split
    · exact blk_whole ((jr_out p hr.1 hr.2 l hl.1 (by omega)).2.1 hl.2)
    · exact blk_whole ((jl_out p hl.1 hl.2 r hr.1 (by omega)).2.1 hr.2)

/-- the first k pieces, and the others -/
def splitT : Tr → Nat → Tr × Tr
  | (Tr.mk none), _ => ((Tr.mk none), (Tr.mk none))
  | (Tr.mk (some (_, l, p, r))), k =>
    if k ≤ l.size then ((splitT l k).1, joinT (splitT l k).2 p r.blk) else (joinT l.blk p (splitT r (k - l.size - 1)).1, (splitT r (k - l.size - 1)).2)
theorem splitT_whole : ∀ (t : Tr) (k : Nat), t.bal → (splitT t k).1.whole ∧ (splitT t k).2.whole
  | (Tr.mk none), k, _ => by simp [splitT, whole, bal, red]
  | (Tr.mk (some (c, l, p, r))), k, h => by
    simp only [splitT]; split
    · have i := splitT_whole l k h.1; exact ⟨i.1, joinT_whole p i.2 (blk_whole h.2.1)⟩
    · have i := splitT_whole r (k - l.size - 1) h.2.1; exact ⟨joinT_whole p (blk_whole h.1) i.1, i.2⟩
theorem splitT_list : ∀ (t : Tr) (k : Nat), (splitT t k).1.list = t.list.take k ∧ (splitT t k).2.list = t.list.drop k
  | (Tr.mk none), k => by simp [splitT, list]
  | (Tr.mk (some (c, l, p, r))), k => by
    simp only [splitT]; split
    · rename_i hk
      have i := splitT_list l k
      have z := size_list l
      refine ⟨?_, ?_⟩
      · simp only [list]; rw [i.1, List.take_append_of_le_length (by omega)]
      · simp only [list]; rw [joinT_list, i.2, blk_list, List.drop_append_of_le_length (by omega)]
    · rename_i hk
      have i := splitT_list r (k - l.size - 1)
      have z := size_list l
      have e : k = l.list.length + ((k - l.size - 1) + 1) := by omega
      refine ⟨?_, ?_⟩
      · simp only [list]; rw [joinT_list, i.1, blk_list]; conv => rhs; rw [e, List.take_length_add_append, List.take_succ_cons]
      · simp only [list]; rw [i.2]; conv => rhs; rw [e, List.drop_length_add_append, List.drop_succ_cons]

/-- l and r with nothing between -/
def gluT (l r : Tr) : Tr :=
  match l, r with
  | (Tr.mk none), r => r
  | l, (Tr.mk none) => l
  | l, r => match l.list[l.size - 1]? with
    | some p => joinT (splitT l (l.size - 1)).1 p r
    | none => (Tr.mk none)

/-- a tree of a list, so many steps deep -/
def buildF : Nat → List Pc → Tr
  | 0, _ => (Tr.mk none)
  | f + 1, l =>
    match l[l.length / 2]? with
    | none => (Tr.mk none)
    | some p => joinT (buildF f (l.take (l.length / 2))) p (buildF f (l.drop (l.length / 2 + 1)))
/-- a tree of a list -/
def buildT (l : List Pc) : Tr := buildF l.length l

theorem buildF_nil : ∀ f, buildF f [] = (Tr.mk none)
  | 0 => rfl
  | _ + 1 => rfl
theorem buildF_any (f : Nat) : ∀ (g : Nat) (l : List Pc), l.length ≤ f → l.length ≤ g → buildF f l = buildF g l := by
  induction f with
  | zero => intro g l h _; have : l = [] := List.eq_nil_of_length_eq_zero (by omega); subst this; rw [buildF_nil, buildF_nil]
  | succ f ih =>
    intro g l h1 h2
    cases g with
    | zero => have : l = [] := List.eq_nil_of_length_eq_zero (by omega); subst this; rw [buildF_nil, buildF_nil]
    | succ g =>
      simp only [buildF]
      cases hl : l[l.length / 2]? with
      | none => rfl
      | some p =>
        have hlt := (List.getElem?_eq_some_iff.1 hl).1
        simp only
        rw [ih g (l.take (l.length / 2)) (by simp only [List.length_take]; omega) (by simp only [List.length_take]; omega), ih g (l.drop (l.length / 2 + 1)) (by simp only [List.length_drop]; omega) (by simp only [List.length_drop]; omega)]
theorem buildT_nil : buildT [] = (Tr.mk none) := rfl
theorem buildT_some {l : List Pc} {p : Pc} (h : l[l.length / 2]? = some p) : buildT l = joinT (buildT (l.take (l.length / 2))) p (buildT (l.drop (l.length / 2 + 1))) := by
  have hlt := (List.getElem?_eq_some_iff.1 h).1
  obtain ⟨n, hn⟩ : ∃ n, l.length = n + 1 := ⟨l.length - 1, by omega⟩
  have e : buildT l = joinT (buildF n (l.take (l.length / 2))) p (buildF n (l.drop (l.length / 2 + 1))) := by
    unfold buildT
    conv => lhs; rw [hn]
    simp only [buildF, h]
  rw [e]
  unfold buildT
  rw [buildF_any n (l.take (l.length / 2)).length _ (by simp only [List.length_take]; omega) (Nat.le_refl _), buildF_any n (l.drop (l.length / 2 + 1)).length _ (by simp only [List.length_drop]; omega) (Nat.le_refl _)]

theorem buildT_ok (n : Nat) : ∀ l : List Pc, l.length ≤ n → (buildT l).whole ∧ (buildT l).list = l := by
  induction n with
  | zero => intro l h; have : l = [] := List.eq_nil_of_length_eq_zero (by omega); subst this; rw [buildT_nil]; exact ⟨⟨trivial, rfl⟩, rfl⟩
  | succ n ih =>
    intro l h
    rcases hl : l[l.length / 2]? with _ | p
    · have := List.getElem?_eq_none_iff.1 hl
      have : l = [] := List.eq_nil_of_length_eq_zero (by omega); subst this; rw [buildT_nil]; exact ⟨⟨trivial, rfl⟩, rfl⟩
    · have hlt := (List.getElem?_eq_some_iff.1 hl).1
      rw [buildT_some hl]
      obtain ⟨a1, a2⟩ := ih (l.take (l.length / 2)) (by simp only [List.length_take]; omega)
      obtain ⟨b1, b2⟩ := ih (l.drop (l.length / 2 + 1)) (by simp only [List.length_drop]; omega)
      refine ⟨joinT_whole p a1 b1, ?_⟩
      rw [joinT_list, a2, b2]
      have e := (List.getElem?_eq_some_iff.1 hl).2
      conv => rhs; rw [← List.take_append_drop (l.length / 2) l, List.drop_eq_getElem_cons hlt, e]

theorem gluT_list (l r : Tr) : (gluT l r).list = l.list ++ r.list := by
  unfold gluT
  split
  · simp [list]
  · simp [list]
  · rename_i h1 h2
    have z := size_list l
    have hs : 0 < l.size := by cases l using Tr.el with
      | nil => exact absurd rfl h1
      | node c a q b => simp only [size]; omega
    rcases hl : l.list[l.size - 1]? with _ | p
    · have := List.getElem?_eq_none_iff.1 hl; omega
    · simp only
      rw [joinT_list, (splitT_list l _).1]
      have e := (List.getElem?_eq_some_iff.1 hl)
      have e1 : l.list = l.list.take (l.size - 1) ++ [p] := by
        conv => lhs; rw [← List.take_append_drop (l.size - 1) l.list, List.drop_eq_getElem_cons (by omega), e.2, List.drop_of_length_le (by omega)]
      conv => rhs; rw [e1]
      simp
theorem gluT_whole {l r : Tr} (hl : l.whole) (hr : r.whole) : (gluT l r).whole := by
  unfold gluT
  split
  · exact hr
  · exact hl
  · split
    · exact joinT_whole _ (splitT_whole l _ hl.1).1 hr
    · exact ⟨trivial, rfl⟩

/-! ### How high -/
theorem bal_size : ∀ t : Tr, t.bal → 2 ^ t.bh ≤ t.size + 1
  | (Tr.mk none), _ => by simp [bh, size]
  | (Tr.mk (some (c, l, p, r))), ⟨h1, h2, h3, _⟩ => by
    have a := bal_size l h1
    have b := bal_size r h2
    rw [← h3] at b
    simp only [bh, size]
    split
    · omega
    · rw [Nat.pow_succ]; omega
theorem bal_ht : ∀ t : Tr, t.bal → t.ht ≤ 2 * t.bh + (if t.red = true then 1 else 0)
  | (Tr.mk none), _ => by simp [ht]
  | (Tr.mk (some (c, l, p, r))), ⟨h1, h2, h3, h4⟩ => by
    have a := bal_ht l h1
    have b := bal_ht r h2
    rw [← h3] at b
    simp only [ht, bh, red]
    cases c with
    | true => simp [h4 rfl] at a b ⊢; omega
    | false =>
      simp only [Bool.false_eq_true, if_false]
      have a' : l.ht ≤ 2 * l.bh + 1 := by split at a <;> omega
      have b' : r.ht ≤ 2 * l.bh + 1 := by split at b <;> omega
      omega
theorem whole_low {t : Tr} (h : t.whole) : 2 ^ t.ht ≤ (t.size + 1) * (t.size + 1) := by
  have a := bal_size t h.1
  have b := bal_ht t h.1
  rw [h.2] at b
  simp at b
  calc 2 ^ t.ht ≤ 2 ^ (2 * t.bh) := Nat.pow_le_pow_right (by omega) b
    _ = 2 ^ t.bh * 2 ^ t.bh := by rw [Nat.two_mul, Nat.pow_add]
    _ ≤ _ := Nat.mul_le_mul a a
end Tr
end Go.Proofs.Ytpifjghhlcjedaa
