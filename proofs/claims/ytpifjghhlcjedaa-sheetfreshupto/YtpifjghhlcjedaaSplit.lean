/- The contracts of split and of together. -/
import Derived.Test.YtpifjghhlcjedaaJoin
namespace Go.Proofs.Ytpifjghhlcjedaa
open Go.RowKit

/-- The call gave two trees; nothing that was there has turned. -/
def Gave2 (w : World) (t u : Tr) (e : Ending) (w' : World) : Prop := ∃ x y, e = .returned (.tuple #[.pointer x, .pointer y]) ∧ At w' t x ∧ At w' u y ∧ Below w.heap.size w w'

theorem Tr.fine.list {t : Tr} (h : t.fine) : fineL t.list := (Tr.fine_list t).1 h

set_option maxHeartbeats 4000000 in
theorem split_left (c : Bool) (l r : Tr) (s o n k : Int) (i : Nat) (a : Option Addr) (w : World) (hi : Hid (i ≤ l.size)) (hb : Hid ((Tr.mk (some (c, l, ⟨s, o, n, k⟩, r)))).bal) (hf : Hid ((Tr.mk (some (c, l, ⟨s, o, n, k⟩, r)))).fine) (h : Hid (At w ((Tr.mk (some (c, l, ⟨s, o, n, k⟩, r)))) a))
    (IH : Hid (∀ a w, At w l a → Calls Try.prog 58 #[.pointer a, .int .i64 (i : Nat)] w fun e w' => Gave2 w (Tr.splitT l i).1 (Tr.splitT l i).2 e w')) :
    Calls Try.prog 58 #[.pointer a, .int .i64 (i : Nat)] w fun e w' => Gave2 w (Tr.splitT l i).1 (Tr.joinT (Tr.splitT l i).2 ⟨s, o, n, k⟩ r.blk) e w' := by
  obtain ⟨b, la, ra, rfl, hn, hl, hr⟩ := h.out
  have HL : Hid (At w l la) := hl
  have HR : Hid (At w r ra) := hr
  have HN : Hid (w.heap[b]? = some (nodeObj c l ⟨s, o, n, k⟩ r la ra)) := hn
  have c10 := (ncells hn).c10
  have g1 : (i : Int) ≤ (l.size : Int) := by have := hi.out; omega
  clear hn hl hr h
  go_enter Try.func58, Try.ntmps58
  go_wp2_with (first | (go_at_call 61; refine (pieces_any l _ _ HL).mono ?_; rintro e w' ⟨rfl, rfl⟩)
                     | (go_at_call 58; refine (IH.out la _ HL.out).mono ?_; rintro e w9 ⟨xa, ya, rfl, hx9, hy9, hb9⟩))
  have HX : Hid (At w9 (Tr.splitT l i).1 xa) := hx9
  have HY : Hid (At w9 (Tr.splitT l i).2 ya) := hy9
  have HR9 : Hid (At w9 r ra) := HR.out.keep hb9
  have HN9 : Hid (w9.heap[b]? = some (nodeObj c l ⟨s, o, n, k⟩ r la ra)) := nkeep HN.out hb9
  obtain ⟨d0, d1, d2, d3, d10, d11⟩ := s7 HN9.out
  clear hx9 hy9 HL HR HN c10 IH g1
  go_region_held3 (fun w' => w'.cell? ⟨b, 0, none⟩ = some (.int .i64 s) ∧ w'.cell? ⟨b, 1, none⟩ = some (.int .i64 o) ∧ w'.cell? ⟨b, 2, none⟩ = some (.int .i64 n) ∧ w'.cell? ⟨b, 3, none⟩ = some (.int .i64 k) ∧ w'.cell? ⟨b, 10, none⟩ = some (.pointer la) ∧ w'.cell? ⟨b, 11, none⟩ = some (.pointer ra)) (first | assumption | simp [*, go_sem])
    (first | (go_at_call 93; refine (blackened_any r ra _ hf.out.right HR9.out.drew).mono ?_; rintro e w7 ⟨za, rfl, hat7, hb7⟩; have k7 := s7 (nkeep HN9.out (bD hb7)))
           | (go_at_call 56; refine (join_any s o n k (Tr.splitT l i).2 r.blk ya za _ (hf.out.list.sub (by rw [Tr.blk_list, (Tr.splitT_list l i).2]; simp only [Tr.list]; exact List.Sublist.append (List.drop_sublist _ _) (List.Sublist.refl _))) (Tr.splitT_whole l i hb.out.1).2 (Tr.blk_whole hb.out.2.1) (HY.out.keep (bD hb7)) hat7).mono ?_; rintro e w6 ⟨ja, rfl, hat6, hb6⟩; have k6 := s7 (nkeep (nkeep HN9.out (bD hb7)) hb6)))
  go_wp2
  go_ret2
  exact ⟨_, _, rfl, (HX.out.keep (bD hb7)).keep hb6, hat6, hb9.trans (((bD hb7).trans (hb6.mono (bD hb7).size)).mono hb9.size)⟩

set_option maxHeartbeats 4000000 in
theorem split_right (c : Bool) (l r : Tr) (s o n k : Int) (i : Nat) (a : Option Addr) (w : World) (hi : Hid (l.size < i)) (hz : Hid (i ≤ 1048576)) (hb : Hid ((Tr.mk (some (c, l, ⟨s, o, n, k⟩, r)))).bal) (hf : Hid ((Tr.mk (some (c, l, ⟨s, o, n, k⟩, r)))).fine) (h : Hid (At w ((Tr.mk (some (c, l, ⟨s, o, n, k⟩, r)))) a))
    (IH : Hid (∀ a w, At w r a → Calls Try.prog 58 #[.pointer a, .int .i64 ((i - l.size - 1 : Nat) : Int)] w fun e w' => Gave2 w (Tr.splitT r (i - l.size - 1)).1 (Tr.splitT r (i - l.size - 1)).2 e w')) :
    Calls Try.prog 58 #[.pointer a, .int .i64 (i : Nat)] w fun e w' => Gave2 w (Tr.joinT l.blk ⟨s, o, n, k⟩ (Tr.splitT r (i - l.size - 1)).1) (Tr.splitT r (i - l.size - 1)).2 e w' := by
  obtain ⟨b, la, ra, rfl, hn, hl, hr⟩ := h.out
  have HL : Hid (At w l la) := hl
  have HR : Hid (At w r ra) := hr
  have HN : Hid (w.heap[b]? = some (nodeObj c l ⟨s, o, n, k⟩ r la ra)) := hn
  have c10 := (ncells hn).c10
  have c11 := (ncells hn).c11
  have g1 : (l.size : Int) < (i : Int) := by have := hi.out; omega
  have g3 : wrap64 (wrap64 ((i : Int) - (l.size : Int)) - 1) = ((i - l.size - 1 : Nat) : Int) := by
    have h1 := hi.out; have h2 := hz.out
    rw [w64 (x := (i : Int) - (l.size : Int)) (by omega) (by omega), w64 (by omega) (by omega)]; omega
  clear hn hl hr h
  go_enter Try.func58, Try.ntmps58
  go_wp2_with (first | (go_at_call 61; refine (pieces_any l _ _ HL).mono ?_; rintro e w' ⟨rfl, rfl⟩)
                     | (go_at_call 58; refine (IH.out ra _ HR.out).mono ?_; rintro e w9 ⟨xa, ya, rfl, hx9, hy9, hb9⟩))
  have HX : Hid (At w9 (Tr.splitT r (i - l.size - 1)).1 xa) := hx9
  have HY : Hid (At w9 (Tr.splitT r (i - l.size - 1)).2 ya) := hy9
  have HL9 : Hid (At w9 l la) := HL.out.keep hb9
  have HN9 : Hid (w9.heap[b]? = some (nodeObj c l ⟨s, o, n, k⟩ r la ra)) := nkeep HN.out hb9
  obtain ⟨d0, d1, d2, d3, d10, d11⟩ := s7 HN9.out
  clear hx9 hy9 HL HR HN c10 IH g1
  go_region_held3 (fun w' => w'.cell? ⟨b, 0, none⟩ = some (.int .i64 s) ∧ w'.cell? ⟨b, 1, none⟩ = some (.int .i64 o) ∧ w'.cell? ⟨b, 2, none⟩ = some (.int .i64 n) ∧ w'.cell? ⟨b, 3, none⟩ = some (.int .i64 k) ∧ w'.cell? ⟨b, 10, none⟩ = some (.pointer la) ∧ w'.cell? ⟨b, 11, none⟩ = some (.pointer ra)) (first | assumption | simp [*, go_sem])
    (first | (go_at_call 93; refine (blackened_any l la _ hf.out.left HL9.out.drew).mono ?_; rintro e w7 ⟨za, rfl, hat7, hb7⟩; have k7 := s7 (nkeep HN9.out (bD hb7)))
           | (go_at_call 56; refine (join_any s o n k l.blk (Tr.splitT r (i - l.size - 1)).1 za xa _ (hf.out.list.sub (by rw [Tr.blk_list, (Tr.splitT_list r _).1]; simp only [Tr.list]; exact List.Sublist.append (List.Sublist.refl _) (List.Sublist.cons_cons _ (List.take_sublist _ _)))) (Tr.blk_whole hb.out.1) (Tr.splitT_whole r _ hb.out.2.1).1 hat7 (HX.out.keep (bD hb7))).mono ?_; rintro e w6 ⟨ja, rfl, hat6, hb6⟩; have k6 := s7 (nkeep (nkeep HN9.out (bD hb7)) hb6)))
  go_wp2
  go_ret2
  exact ⟨_, _, rfl, hat6, (HY.out.keep (bD hb7)).keep hb6, hb9.trans (((bD hb7).trans (hb6.mono (bD hb7).size)).mono hb9.size)⟩

set_option maxHeartbeats 400000 in
theorem split_nil (i : Int) (w : World) : Calls Try.prog 58 #[.pointer none, .int .i64 i] w fun e w' => Gave2 w (Tr.mk none) (Tr.mk none) e w' := by
  go_enter Try.func58, Try.ntmps58
  go_wp2
  go_ret2
  exact ⟨_, _, rfl, rfl, rfl, Below.refl _ _⟩

theorem split_any : ∀ (t : Tr) (i : Nat) (a : Option Addr) (w : World), i ≤ t.size → t.bal → t.fine → At w t a →
    Calls Try.prog 58 #[.pointer a, .int .i64 (i : Nat)] w fun e w' => Gave2 w (Tr.splitT t i).1 (Tr.splitT t i).2 e w'
  | (Tr.mk none), i, a, w, _, _, _, h => by
    have e : a = none := h
    subst e
    exact split_nil i w
  | (Tr.mk (some (c, l, ⟨s, o, n, k⟩, r))), i, a, w, hi, hb, hf, h => by
    have z := hf.2
    simp only [Tr.size] at hi z
    by_cases hc : i ≤ l.size
    · simp only [Tr.splitT, if_pos hc]
      exact split_left c l r s o n k i a w hc hb hf h (fun a w h => split_any l i a w hc hb.1 hf.left h)
    · simp only [Tr.splitT, if_neg hc]
      exact split_right c l r s o n k i a w (by unfold Hid; omega) (by unfold Hid; omega) hb hf h (fun a w h => split_any r (i - l.size - 1) a w (by omega) hb.2.1 hf.right h)

theorem last_sub {L R : List Pc} {i : Nat} {p : Pc} (h : L[i]? = some p) : (L.take i ++ p :: R).Sublist (L ++ R) := by
  have e := List.getElem?_eq_some_iff.1 h
  conv => rhs; rw [← List.take_append_drop i L, List.drop_eq_getElem_cons e.1, e.2]
  rw [List.append_assoc, List.cons_append]
  exact List.Sublist.append (List.Sublist.refl _) (List.Sublist.cons_cons _ (List.sublist_append_right _ _))

set_option maxHeartbeats 4000000 in
theorem together_two (l r : Tr) (p : Pc) (la ra : Addr) (w : World) (hp : Hid (l.list[l.size - 1]? = some p)) (h1 : Hid (1 ≤ l.size)) (hz : Hid (fineL (l.list ++ r.list))) (wl : Hid l.whole) (wr : Hid r.whole) (hl : Hid (At w l (some la))) (hr : Hid (At w r (some ra))) :
    Calls Try.prog 55 #[.pointer (some la), .pointer (some ra)] w fun e w' => Gave w (Tr.joinT (Tr.splitT l (l.size - 1)).1 p r) e w' := by
  have FL : Hid l.fine := hz.out.tree (List.sublist_append_left _ _)
  have g3 : wrap64 ((l.size : Int) - 1) = ((l.size - 1 : Nat) : Int) := by
    have a := h1.out; have b := FL.out.2
    rw [w64 (by omega) (by omega)]; omega
  obtain ⟨s, o, n, k⟩ := p
  go_enter Try.func55, Try.ntmps55
  go_wp2_with (first | (go_at_call 61; refine (pieces_any l _ _ hl).mono ?_; rintro e w' ⟨rfl, rfl⟩)
                     | (go_at_call 58; refine (split_any l (l.size - 1) _ _ (Nat.sub_le _ _) wl.out.1 FL.out hl.out).mono ?_; rintro e w9 ⟨xa, ya, rfl, hx9, hy9, hb9⟩)
                     | (go_at_call 68; refine (get_any l (l.size - 1) _ _ (by have := h1.out; omega) FL.out.2 (hl.out.keep hb9)).mono ?_; rintro e w8 ⟨s', o', n', k', hg8, rfl, hb8⟩)
                     | (go_at_call 56; refine (join_any s' o' n' k' (Tr.splitT l (l.size - 1)).1 r xa _ _ (by rw [(Tr.splitT_list l _).1]; exact hz.out.sub (last_sub hg8)) (Tr.splitT_whole l _ wl.out.1).1 wr.out (hx9.keep hb8) ((hr.out.keep hb9).keep hb8)).mono ?_; rintro e w7 ⟨ja, rfl, hat7, hb7⟩))
  go_ret
  have e : (⟨s', o', n', k'⟩ : Pc) = ⟨s, o, n, k⟩ := by have := hp.out; rw [hg8] at this; exact Option.some.inj this
  rw [← e]
  exact ⟨_, rfl, hat7, hb9.trans ((hb8.trans (hb7.mono hb8.size)).mono hb9.size)⟩

set_option maxHeartbeats 400000 in
theorem together_l (ra : Option Addr) (r : Tr) (w : World) (hr : Hid (At w r ra)) : Calls Try.prog 55 #[.pointer none, .pointer ra] w fun e w' => Gave w r e w' := by
  go_enter Try.func55, Try.ntmps55
  go_wp2
  go_ret
  exact ⟨_, rfl, hr.out, Below.refl _ _⟩
set_option maxHeartbeats 400000 in
theorem together_r (la : Addr) (l : Tr) (w : World) (hl : Hid (At w l (some la))) : Calls Try.prog 55 #[.pointer (some la), .pointer none] w fun e w' => Gave w l e w' := by
  go_enter Try.func55, Try.ntmps55
  go_wp2
  go_ret
  exact ⟨_, rfl, hl.out, Below.refl _ _⟩

theorem together_any (l r : Tr) (la ra : Option Addr) (w : World) (hz : fineL (l.list ++ r.list)) (wl : l.whole) (wr : r.whole) (hl : At w l la) (hr : At w r ra) :
    Calls Try.prog 55 #[.pointer la, .pointer ra] w fun e w' => Gave w (Tr.gluT l r) e w' := by
  match l, r with
  | (Tr.mk none), r =>
    have e : la = none := hl
    subst e
    exact together_l ra r w hr
  | (Tr.mk (some (c, a, q, b))), (Tr.mk none) =>
    have e : ra = none := hr
    obtain ⟨bl, _, _, rfl, -⟩ := id hl
    subst e
    exact together_r _ _ w hl
  | (Tr.mk (some (c, a, q, b))), (Tr.mk (some (c', a', q', b'))) =>
    obtain ⟨bl, _, _, rfl, -⟩ := id hl
    obtain ⟨bl', _, _, rfl, -⟩ := id hr
    have z := Tr.size_list ((Tr.mk (some (c, a, q, b))))
    have h1 : 1 ≤ ((Tr.mk (some (c, a, q, b)))).size := by simp only [Tr.size]; omega
    rcases hp : ((Tr.mk (some (c, a, q, b)))).list[((Tr.mk (some (c, a, q, b)))).size - 1]? with _ | p
    · have := List.getElem?_eq_none_iff.1 hp; omega
    · have e : Tr.gluT ((Tr.mk (some (c, a, q, b)))) ((Tr.mk (some (c', a', q', b')))) = Tr.joinT (Tr.splitT ((Tr.mk (some (c, a, q, b)))) (((Tr.mk (some (c, a, q, b)))).size - 1)).1 p ((Tr.mk (some (c', a', q', b')))) := by
        simp only [Tr.gluT, hp]
      rw [e]
      exact together_two _ _ p _ _ w hp h1 hz wl wr hl hr
end Go.Proofs.Ytpifjghhlcjedaa
