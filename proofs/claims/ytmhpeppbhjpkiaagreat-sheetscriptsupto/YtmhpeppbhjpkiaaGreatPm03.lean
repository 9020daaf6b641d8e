/- The contract of joinLeft, gone on with: two reds one below the other; the whole of it. -/
import Derived.Test.YtmhpeppbhjpkiaaGreatPm02
namespace Go.Proofs.YtmhpeppbhjpkiaaGreat
open Go.RowKit

theorem s7'' {w : World} {b b' : Nat} {c c' : Bool} {l : Tr} {s o n k : Int} {r : Tr} {la ra : Option Addr} {l' : Tr} {p' : Pc} {r' : Tr} {la' ra' : Option Addr} (h : w.heap[b]? = some (nodeObj c l ⟨s, o, n, k⟩ r la ra)) (h' : w.heap[b']? = some (nodeObj c' l' p' r' la' ra')) :
    w.cell? ⟨b, 0, none⟩ = some (.int .i64 s) ∧ w.cell? ⟨b, 1, none⟩ = some (.int .i64 o) ∧ w.cell? ⟨b, 2, none⟩ = some (.int .i64 n) ∧ w.cell? ⟨b, 3, none⟩ = some (.int .i64 k) ∧ w.cell? ⟨b, 11, none⟩ = some (.pointer ra) ∧ w.cell? ⟨b', 11, none⟩ = some (.pointer ra') := by
  have q := ncells h
  exact ⟨q.c0, q.c1, q.c2, q.c3, q.c11, (ncells h').c11⟩

theorem list_turnL {A X Y B R : List Pc} {q t p : Pc} (h : X ++ t :: Y = B ++ p :: A) : X ++ t :: (Y ++ q :: R) = B ++ p :: (A ++ q :: R) := by
  have := congrArg (· ++ q :: R) h
  simpa using this
theorem list_low {A X Y B R : List Pc} {q t p : Pc} (h : X ++ t :: Y = B ++ p :: A) : (Y ++ q :: R).Sublist (B ++ p :: (A ++ q :: R)) := by
  rw [← list_turnL h]
  exact List.Sublist.trans (List.Sublist.cons _ (List.Sublist.refl _)) (List.sublist_append_right _ _)
theorem list_x {A X Y B R : List Pc} {q t p : Pc} (h : X ++ t :: Y = B ++ p :: A) : X.Sublist (B ++ p :: (A ++ q :: R)) := by
  rw [← list_turnL h]
  exact List.sublist_append_left _ _

set_option maxHeartbeats 4000000 in
theorem joinLeft_calm (s o n k : Int) (a b l : Tr) (qs qo qn qk : Int) (x y : Tr) (ts to tn tk : Int) (la ra : Option Addr) (w : World) (hf : Hid (fineL (l.list ++ ⟨s, o, n, k⟩ :: (a.list ++ ⟨qs, qo, qn, qk⟩ :: b.list)))) (hne : ((l.bh : Int) == (((Tr.mk (some (false, a, ⟨qs, qo, qn, qk⟩, b)))).bh : Int)) = false) (hyr : x.red = false)
    (hm : Hid (((Tr.mk (some (true, x, ⟨ts, to, tn, tk⟩, y)))).list = l.list ++ ⟨s, o, n, k⟩ :: a.list)) (hl : Hid (At w l la)) (hr : Hid (At w ((Tr.mk (some (false, a, ⟨qs, qo, qn, qk⟩, b)))) ra))
    (IH : Hid (∀ w aa, At w l la → At w a aa → Calls Tryz.prog 93 #[.pointer la, .agg #[.int .i64 s, .int .i64 o, .int .i64 n, .int .i64 k], .pointer aa] w fun e w' => Gave w ((Tr.mk (some (true, x, ⟨ts, to, tn, tk⟩, y)))) e w')) :
    Calls Tryz.prog 93 #[.pointer la, .agg #[.int .i64 s, .int .i64 o, .int .i64 n, .int .i64 k], .pointer ra] w fun e w' => Gave w ((Tr.mk (some (false, ((Tr.mk (some (true, x, ⟨ts, to, tn, tk⟩, y)))), ⟨qs, qo, qn, qk⟩, b)))) e w' := by
  obtain ⟨bl, aa, ba, rfl, hn, ha, hb⟩ := hr.out
  have HA : Hid (At w a aa) := ha
  have HB : Hid (At w b ba) := hb
  have HN : Hid (w.heap[bl]? = some (nodeObj false a ⟨qs, qo, qn, qk⟩ b aa ba)) := hn
  have hlt := (ncells hn).lt
  have c10 := s10 hn
  clear hn ha hb
  go_enter Tryz.func93, Tryz.ntmps93
  go_wp2_with (first | (go_at_call 121; refine (isRed_any _ _ _ (hr.out.alloc _)).mono ?_; rintro e w' ⟨rfl, rfl⟩; rw [show ((Tr.mk (some (false, a, ⟨qs, qo, qn, qk⟩, b)))).red = false from rfl])
                     | (go_at_call_of 89 (Value.pointer la); refine (black_any l _ _ (hl.out.alloc _)).mono ?_; rintro e w' ⟨rfl, rfl⟩)
                     | (go_at_call 89; refine (black_any _ _ _ (hr.out.alloc _)).mono ?_; rintro e w' ⟨rfl, rfl⟩))
  go_region_held3 (fun w' => w'.cell? ⟨w.heap.size, 0, none⟩ = some (.int .i64 s) ∧ w'.cell? ⟨w.heap.size, 1, none⟩ = some (.int .i64 o) ∧ w'.cell? ⟨w.heap.size, 2, none⟩ = some (.int .i64 n) ∧ w'.cell? ⟨w.heap.size, 3, none⟩ = some (.int .i64 k) ∧ w'.cell? ⟨bl, 10, none⟩ = some (.pointer aa)) (first | assumption | simp [*, go_sem])
    (first | (go_at_call 93; refine (IH.out _ aa (hl.out.alloc _).drew (HA.out.alloc _).drew).mono ?_; rintro e w9 ⟨ma, rfl, hat9, hb9⟩; have k9 := s5 c10 hb9 hlt))
  have L9 := bA (bD hb9)
  have HM : Hid (At w9 ((Tr.mk (some (true, x, ⟨ts, to, tn, tk⟩, y)))) ma) := hat9
  have hr9 : Hid (At w9 ((Tr.mk (some (false, a, ⟨qs, qo, qn, qk⟩, b)))) (some ⟨bl, 0, none⟩)) := hr.out.keep L9
  have HB9 : Hid (At w9 b ba) := HB.out.keep L9
  have HN9 : Hid (w9.heap[bl]? = some (nodeObj false a ⟨qs, qo, qn, qk⟩ b aa ba)) := nkeep HN.out L9
  obtain ⟨d0, d1, d2, d3, d10, d11⟩ := s7 HN9.out
  clear k9 hat9 hb9 hl HA HB HN hr c10 hlt IH
  obtain ⟨mb, xa, ya, rfl, mn, hx, hy⟩ := HM.out
  have HX : Hid (At w9 x xa) := hx
  have HY : Hid (At w9 y ya) := hy
  have HMN : Hid (w9.heap[mb]? = some (nodeObj true x ⟨ts, to, tn, tk⟩ y xa ya)) := mn
  obtain ⟨e0, e1, e2, e3, e10, e11⟩ := s7 mn
  clear mn hx hy
  go_wp2_with (first | (go_at_call_of 121 (Value.pointer xa); refine (isRed_any _ _ _ HX).mono ?_; rintro e w' ⟨rfl, rfl⟩; rw [hyr])
                     | (go_at_call_of 121 (Value.pointer (some ⟨mb, 0, none⟩)); refine (isRed_any _ _ _ HM).mono ?_; rintro e w' ⟨rfl, rfl⟩; rw [show ((Tr.mk (some (true, x, ⟨ts, to, tn, tk⟩, y)))).red = true from rfl])
                     | (go_at_call 121; refine (isRed_any _ _ _ hr9).mono ?_; rintro e w' ⟨rfl, rfl⟩; rw [show ((Tr.mk (some (false, a, ⟨qs, qo, qn, qk⟩, b)))).red = false from rfl]))
  go_region_held3 (fun w' => w'.cell? ⟨bl, 0, none⟩ = some (.int .i64 qs) ∧ w'.cell? ⟨bl, 1, none⟩ = some (.int .i64 qo) ∧ w'.cell? ⟨bl, 2, none⟩ = some (.int .i64 qn) ∧ w'.cell? ⟨bl, 3, none⟩ = some (.int .i64 qk) ∧ w'.cell? ⟨bl, 10, none⟩ = some (.pointer aa) ∧ w'.cell? ⟨bl, 11, none⟩ = some (.pointer ba)) (first | assumption | simp [*, go_sem])
    (first | (go_at_call 121; refine (isRed_any _ _ _ hr9.out.drew).mono ?_; rintro e w' ⟨rfl, rfl⟩; rw [show ((Tr.mk (some (false, a, ⟨qs, qo, qn, qk⟩, b)))).red = false from rfl])
           | (go_at_call 90; refine (make_any false ((Tr.mk (some (true, x, ⟨ts, to, tn, tk⟩, y)))) qs qo qn qk b (some ⟨mb, 0, none⟩) ba _ (hf.out.of (by simp only [Tr.list] at *; rw [hm.out]; simp)) HM.out.drew HB9.out.drew).mono ?_; rintro e w8 ⟨b8, rfl, hat8, hb8⟩; have k8 := s7 (nkeep HN9.out (bD hb8))))
  go_wp2
  go_ret
  exact ⟨_, rfl, hat8, L9.trans ((bD hb8).mono L9.size)⟩

set_option maxHeartbeats 4000000 in
theorem joinLeft_turn (s o n k : Int) (a b l : Tr) (qs qo qn qk : Int) (x y : Tr) (ts to tn tk : Int) (la ra : Option Addr) (w : World) (hf : Hid (fineL (l.list ++ ⟨s, o, n, k⟩ :: (a.list ++ ⟨qs, qo, qn, qk⟩ :: b.list)))) (hne : ((l.bh : Int) == (((Tr.mk (some (false, a, ⟨qs, qo, qn, qk⟩, b)))).bh : Int)) = false) (hyr : x.red = true)
    (hm : Hid (((Tr.mk (some (true, x, ⟨ts, to, tn, tk⟩, y)))).list = l.list ++ ⟨s, o, n, k⟩ :: a.list)) (hl : Hid (At w l la)) (hr : Hid (At w ((Tr.mk (some (false, a, ⟨qs, qo, qn, qk⟩, b)))) ra))
    (IH : Hid (∀ w aa, At w l la → At w a aa → Calls Tryz.prog 93 #[.pointer la, .agg #[.int .i64 s, .int .i64 o, .int .i64 n, .int .i64 k], .pointer aa] w fun e w' => Gave w ((Tr.mk (some (true, x, ⟨ts, to, tn, tk⟩, y)))) e w')) :
    Calls Tryz.prog 93 #[.pointer la, .agg #[.int .i64 s, .int .i64 o, .int .i64 n, .int .i64 k], .pointer ra] w fun e w' => Gave w ((Tr.mk (some (true, x.blk, ⟨ts, to, tn, tk⟩, ((Tr.mk (some (false, y, ⟨qs, qo, qn, qk⟩, b)))))))) e w' := by
  obtain ⟨bl, aa, ba, rfl, hn, ha, hb⟩ := hr.out
  have HA : Hid (At w a aa) := ha
  have HB : Hid (At w b ba) := hb
  have HN : Hid (w.heap[bl]? = some (nodeObj false a ⟨qs, qo, qn, qk⟩ b aa ba)) := hn
  have hlt := (ncells hn).lt
  have c10 := s10 hn
  clear hn ha hb
  go_enter Tryz.func93, Tryz.ntmps93
  go_wp2_with (first | (go_at_call 121; refine (isRed_any _ _ _ (hr.out.alloc _)).mono ?_; rintro e w' ⟨rfl, rfl⟩; rw [show ((Tr.mk (some (false, a, ⟨qs, qo, qn, qk⟩, b)))).red = false from rfl])
                     | (go_at_call_of 89 (Value.pointer la); refine (black_any l _ _ (hl.out.alloc _)).mono ?_; rintro e w' ⟨rfl, rfl⟩)
                     | (go_at_call 89; refine (black_any _ _ _ (hr.out.alloc _)).mono ?_; rintro e w' ⟨rfl, rfl⟩))
  go_region_held3 (fun w' => w'.cell? ⟨w.heap.size, 0, none⟩ = some (.int .i64 s) ∧ w'.cell? ⟨w.heap.size, 1, none⟩ = some (.int .i64 o) ∧ w'.cell? ⟨w.heap.size, 2, none⟩ = some (.int .i64 n) ∧ w'.cell? ⟨w.heap.size, 3, none⟩ = some (.int .i64 k) ∧ w'.cell? ⟨bl, 10, none⟩ = some (.pointer aa)) (first | assumption | simp [*, go_sem])
    (first | (go_at_call 93; refine (IH.out _ aa (hl.out.alloc _).drew (HA.out.alloc _).drew).mono ?_; rintro e w9 ⟨ma, rfl, hat9, hb9⟩; have k9 := s5 c10 hb9 hlt))
  have L9 := bA (bD hb9)
  have HM : Hid (At w9 ((Tr.mk (some (true, x, ⟨ts, to, tn, tk⟩, y)))) ma) := hat9
  have hr9 : Hid (At w9 ((Tr.mk (some (false, a, ⟨qs, qo, qn, qk⟩, b)))) (some ⟨bl, 0, none⟩)) := hr.out.keep L9
  have HB9 : Hid (At w9 b ba) := HB.out.keep L9
  have HN9 : Hid (w9.heap[bl]? = some (nodeObj false a ⟨qs, qo, qn, qk⟩ b aa ba)) := nkeep HN.out L9
  obtain ⟨d0, d1, d2, d3, d10, d11⟩ := s7 HN9.out
  clear k9 hat9 hb9 hl HA HB HN hr c10 hlt IH
  obtain ⟨mb, xa, ya, rfl, mn, hx, hy⟩ := HM.out
  have HX : Hid (At w9 x xa) := hx
  have HY : Hid (At w9 y ya) := hy
  have HMN : Hid (w9.heap[mb]? = some (nodeObj true x ⟨ts, to, tn, tk⟩ y xa ya)) := mn
  obtain ⟨e0, e1, e2, e3, e10, e11⟩ := s7 mn
  clear mn hx hy
  go_wp2_with (first | (go_at_call_of 121 (Value.pointer xa); refine (isRed_any _ _ _ HX).mono ?_; rintro e w' ⟨rfl, rfl⟩; rw [hyr])
                     | (go_at_call_of 121 (Value.pointer (some ⟨mb, 0, none⟩)); refine (isRed_any _ _ _ HM).mono ?_; rintro e w' ⟨rfl, rfl⟩; rw [show ((Tr.mk (some (true, x, ⟨ts, to, tn, tk⟩, y)))).red = true from rfl])
                     | (go_at_call 121; refine (isRed_any _ _ _ hr9).mono ?_; rintro e w' ⟨rfl, rfl⟩; rw [show ((Tr.mk (some (false, a, ⟨qs, qo, qn, qk⟩, b)))).red = false from rfl]))
  go_region_held3 (fun w' => w'.cell? ⟨bl, 0, none⟩ = some (.int .i64 qs) ∧ w'.cell? ⟨bl, 1, none⟩ = some (.int .i64 qo) ∧ w'.cell? ⟨bl, 2, none⟩ = some (.int .i64 qn) ∧ w'.cell? ⟨bl, 3, none⟩ = some (.int .i64 qk) ∧ w'.cell? ⟨bl, 11, none⟩ = some (.pointer ba) ∧ w'.cell? ⟨mb, 11, none⟩ = some (.pointer ya)) (first | assumption | simp [*, go_sem])
    (first | (go_at_call 90; refine (make_any false y qs qo qn qk b ya ba _ (hf.out.tree (by simp only [Tr.list] at hm ⊢; exact list_low hm.out)) HY.out.drew HB9.out.drew).mono ?_; rintro e w8 ⟨b8, rfl, hat8, hb8⟩; have k8 := s7'' (nkeep HN9.out (bD hb8)) (nkeep HMN.out (bD hb8))))
  have L8 := bD hb8
  have HLow : Hid (At w8 ((Tr.mk (some (false, y, ⟨qs, qo, qn, qk⟩, b)))) (some ⟨b8, 0, none⟩)) := hat8
  have HX8 : Hid (At w8 x xa) := HX.out.keep L8
  have HMN8 : Hid (w8.heap[mb]? = some (nodeObj true x ⟨ts, to, tn, tk⟩ y xa ya)) := nkeep HMN.out L8
  obtain ⟨f0, f1, f2, f3, f10, f11⟩ := s7 HMN8.out
  clear k8 hat8 hb8 HB9 HN9 hr9 HM HX HY HMN d0 d1 d2 d3 d10 d11 e0 e1 e2 e3 e10 e11
  go_wp2_with fail
  go_region_held3 (fun w' => w'.cell? ⟨mb, 0, none⟩ = some (.int .i64 ts) ∧ w'.cell? ⟨mb, 1, none⟩ = some (.int .i64 to) ∧ w'.cell? ⟨mb, 2, none⟩ = some (.int .i64 tn) ∧ w'.cell? ⟨mb, 3, none⟩ = some (.int .i64 tk) ∧ w'.cell? ⟨mb, 10, none⟩ = some (.pointer xa) ∧ w'.cell? ⟨mb, 11, none⟩ = some (.pointer ya)) (first | assumption | simp [*, go_sem])
    (first | (go_at_call 92; refine (blackened_any x xa _ (hf.out.tree (by simp only [Tr.list] at hm; exact list_x hm.out)) HX8.out.drew).mono ?_; rintro e w7 ⟨za, rfl, hat7, hb7⟩; have k7 := s7 (nkeep HMN8.out (bD hb7)))
           | (go_at_call 90; refine (make_any true _ ts to tn tk _ _ _ _ (hf.out.of (by simp only [Tr.list] at hm ⊢; rw [Tr.blk_list]; exact list_turnL hm.out)) hat7 (HLow.out.keep (bD hb7))).mono ?_; rintro e w6 ⟨b6, rfl, hat6, hb6⟩; have k6 := s7 (nkeep (nkeep HMN8.out (bD hb7)) hb6)))
  go_wp2
  go_ret
  exact ⟨_, rfl, hat6, L9.trans ((L8.trans (((bD hb7).trans (hb6.mono (bD hb7).size)).mono L8.size)).mono L9.size)⟩

theorem joinLeft_any (s o n k : Int) (l : Tr) (la : Option Addr) (hl0 : l.bal) (hl1 : l.red = false) : ∀ (r : Tr) (ra : Option Addr) (w : World), fineL (l.list ++ ⟨s, o, n, k⟩ :: r.list) → r.bal → l.bh ≤ r.bh → At w l la → At w r ra →
    Calls Tryz.prog 93 #[.pointer la, .agg #[.int .i64 s, .int .i64 o, .int .i64 n, .int .i64 k], .pointer ra] w fun e w' => Gave w (Tr.jl l ⟨s, o, n, k⟩ r) e w'
  | (Tr.mk none), ra, w, hf, hb, hbh, hl, hr => by
    have := joinLeft_base s o n k l (Tr.mk none) la ra w hf rfl (by simp only [Tr.bh] at *; omega) hl hr
    simpa only [Tr.jl] using this
  | (Tr.mk (some (true, a, ⟨qs, qo, qn, qk⟩, b))), ra, w, hf, hb, hbh, hl, hr => by
    have hbb : l.bh ≤ a.bh := by simp only [Tr.bh, if_true] at hbh; omega
    have ih := fun w aa h1 h2 => joinLeft_any s o n k l la hl0 hl1 a aa w (hf.sub (by simp only [Tr.list]; exact List.Sublist.append (List.Sublist.refl _) (List.Sublist.cons_cons _ (List.sublist_append_left _ _)))) hb.1 hbb h1 h2
    have := joinLeft_red s o n k a b l qs qo qn qk (Tr.jl l ⟨s, o, n, k⟩ a) la ra w hf (Tr.jl_list _ _ _) hl hr ih
    rw [Tr.jl, if_neg (by simp), Tr.fixL_true]
    exact this
  | (Tr.mk (some (false, a, ⟨qs, qo, qn, qk⟩, b))), ra, w, hf, hb, hbh, hl, hr => by
    by_cases he : l.bh = ((Tr.mk (some (false, a, ⟨qs, qo, qn, qk⟩, b)))).bh
    · have := joinLeft_base s o n k l _ la ra w hf rfl he hl hr
      rw [Tr.jl, if_pos ⟨rfl, he⟩]
      exact this
    · have hbb : l.bh ≤ a.bh := by simp [Tr.bh] at hbh he; omega
      have ih := fun w aa h1 h2 => joinLeft_any s o n k l la hl0 hl1 a aa w (hf.sub (by simp only [Tr.list]; exact List.Sublist.append (List.Sublist.refl _) (List.Sublist.cons_cons _ (List.sublist_append_left _ _)))) hb.1 hbb h1 h2
      have hm := Tr.jl_list l ⟨s, o, n, k⟩ a
      have hne := ne_bh he
      rw [Tr.jl, if_neg (by simp [he])]
      generalize Tr.jl l ⟨s, o, n, k⟩ a = m at ih hm
      match m, ih, hm with
      | (Tr.mk none), ih, hm => exact joinLeft_flat s o n k a b l qs qo qn qk (Tr.mk none) la ra w hf hne rfl hm hl hr ih
      | (Tr.mk (some (false, x, t, y))), ih, hm =>
        have e : Tr.fixL false ((Tr.mk (some (false, x, t, y)))) ⟨qs, qo, qn, qk⟩ b = (Tr.mk (some (false, ((Tr.mk (some (false, x, t, y)))), ⟨qs, qo, qn, qk⟩, b))) := by cases x <;> rfl
        rw [e]
        exact joinLeft_flat s o n k a b l qs qo qn qk _ la ra w hf hne rfl hm hl hr ih
      | (Tr.mk (some (true, (Tr.mk none), ⟨ts, to, tn, tk⟩, y))), ih, hm => exact joinLeft_calm s o n k a b l qs qo qn qk (Tr.mk none) y ts to tn tk la ra w hf hne rfl hm hl hr ih
      | (Tr.mk (some (true, ((Tr.mk (some (false, x, u, z)))), ⟨ts, to, tn, tk⟩, y))), ih, hm => exact joinLeft_calm s o n k a b l qs qo qn qk _ y ts to tn tk la ra w hf hne rfl hm hl hr ih
      | (Tr.mk (some (true, ((Tr.mk (some (true, x, u, z)))), ⟨ts, to, tn, tk⟩, y))), ih, hm => exact joinLeft_turn s o n k a b l qs qo qn qk _ y ts to tn tk la ra w hf hne rfl hm hl hr ih
end Go.Proofs.YtmhpeppbhjpkiaaGreat

/- The contracts of join and of get. -/
namespace Go.Proofs.YtmhpeppbhjpkiaaGreat
open Go.RowKit

set_option maxHeartbeats 4000000 in
theorem join_any (s o n k : Int) (l r : Tr) (la ra : Option Addr) (w : World) (hf : Hid (fineL (l.list ++ ⟨s, o, n, k⟩ :: r.list))) (wl : Hid l.whole) (wr : Hid r.whole) (hl : Hid (At w l la)) (hr : Hid (At w r ra)) :
    Calls Tryz.prog 52 #[.pointer la, .agg #[.int .i64 s, .int .i64 o, .int .i64 n, .int .i64 k], .pointer ra] w fun e w' => Gave w (Tr.joinT l ⟨s, o, n, k⟩ r) e w' := by
  by_cases h1 : l.bh = r.bh
  · rw [show Tr.joinT l ⟨s, o, n, k⟩ r = (Tr.mk (some (false, l, ⟨s, o, n, k⟩, r))) from by rw [Tr.joinT, if_pos h1]]
    go_enter Tryz.func52, Tryz.ntmps52
    go_wp2_with (first | (go_at_call_of 89 (Value.pointer la); refine (black_any l _ _ (hl.out.alloc _)).mono ?_; rintro e w' ⟨rfl, rfl⟩; rw [h1])
                       | (go_at_call_of 89 (Value.pointer ra); refine (black_any r _ _ (hr.out.alloc _)).mono ?_; rintro e w' ⟨rfl, rfl⟩)
                       | (go_at_call 90; refine (make_any false l s o n k r la ra _ (hf.out.of rfl) (hl.out.alloc _) (hr.out.alloc _)).mono ?_; rintro e w9 ⟨b9, rfl, hat9, hb9⟩))
    go_ret
    exact ⟨_, rfl, hat9, bA hb9⟩
  · have hne := ne_bh h1
    by_cases h2 : r.bh < l.bh
    · rw [show Tr.joinT l ⟨s, o, n, k⟩ r = (Tr.jr ⟨s, o, n, k⟩ r l).blk from by rw [Tr.joinT, if_neg h1, if_pos h2]]
      have hg : (r.bh : Int) < (l.bh : Int) := by omega
      have H1 : Hid (l.bh ≠ r.bh) := h1
      have H2 : Hid (r.bh < l.bh) := h2
      clear h1 h2
      go_enter Tryz.func52, Tryz.ntmps52
      go_wp2_with (first | (go_at_call_of 89 (Value.pointer la); refine (black_any l _ _ (hl.out.alloc _)).mono ?_; rintro e w' ⟨rfl, rfl⟩)
                         | (go_at_call_of 89 (Value.pointer ra); refine (black_any r _ _ (hr.out.alloc _)).mono ?_; rintro e w' ⟨rfl, rfl⟩)
                         | (go_at_call 91; refine (joinRight_any s o n k r ra wr.out.1 wr.out.2 l la _ hf.out wl.out.1 (Nat.le_of_lt H2.out) (hl.out.alloc _) (hr.out.alloc _)).mono ?_; rintro e w9 ⟨a9, rfl, hat9, hb9⟩)
                         | (go_at_call 92; refine (blackened_any _ _ _ (hf.out.of (Tr.jr_list _ _ _)) hat9).mono ?_; rintro e w8 ⟨a8, rfl, hat8, hb8⟩))
      go_ret
      exact ⟨_, rfl, hat8, (bA hb9).trans (hb8.mono (bA hb9).size)⟩
    · rw [show Tr.joinT l ⟨s, o, n, k⟩ r = (Tr.jl l ⟨s, o, n, k⟩ r).blk from by rw [Tr.joinT, if_neg h1, if_neg h2]]
      have hg : (l.bh : Int) < (r.bh : Int) := by omega
      have H2 : Hid (l.bh < r.bh) := by unfold Hid; omega
      clear h1 h2
      go_enter Tryz.func52, Tryz.ntmps52
      go_wp2_with (first | (go_at_call_of 89 (Value.pointer la); refine (black_any l _ _ (hl.out.alloc _)).mono ?_; rintro e w' ⟨rfl, rfl⟩)
                         | (go_at_call_of 89 (Value.pointer ra); refine (black_any r _ _ (hr.out.alloc _)).mono ?_; rintro e w' ⟨rfl, rfl⟩)
                         | (go_at_call 93; refine (joinLeft_any s o n k l la wl.out.1 wl.out.2 r ra _ hf.out wr.out.1 (Nat.le_of_lt H2.out) (hl.out.alloc _) (hr.out.alloc _)).mono ?_; rintro e w9 ⟨a9, rfl, hat9, hb9⟩)
                         | (go_at_call 92; refine (blackened_any _ _ _ (hf.out.of (Tr.jl_list _ _ _)) hat9).mono ?_; rintro e w8 ⟨a8, rfl, hat8, hb8⟩))
      go_ret
      exact ⟨_, rfl, hat8, (bA hb9).trans (hb8.mono (bA hb9).size)⟩

theorem list_left {c : Bool} {l r : Tr} {p : Pc} {i : Nat} (h : i < l.size) : ((Tr.mk (some (c, l, p, r)))).list[i]? = l.list[i]? := by
  simp only [Tr.list]; exact List.getElem?_append_left (by rw [Tr.size_list]; exact h)
theorem list_here {c : Bool} {l r : Tr} {p : Pc} {i : Nat} (h : i = l.size) : ((Tr.mk (some (c, l, p, r)))).list[i]? = some p := by
  subst h; simp only [Tr.list]; rw [List.getElem?_append_right (by rw [Tr.size_list]; exact Nat.le_refl _)]; simp [Tr.size_list]
theorem list_right {c : Bool} {l r : Tr} {p : Pc} {i : Nat} (h : l.size < i) : ((Tr.mk (some (c, l, p, r)))).list[i]? = r.list[i - l.size - 1]? := by
  simp only [Tr.list]; rw [List.getElem?_append_right (by rw [Tr.size_list]; omega), Tr.size_list]
  obtain ⟨j, hj⟩ : ∃ j, i - l.size = j + 1 := ⟨i - l.size - 1, by omega⟩
  rw [hj, List.getElem?_cons_succ, Nat.add_sub_cancel]

theorem sl {w : World} {b : Nat} {c : Bool} {l : Tr} {s o n k : Int} {r : Tr} {la ra : Option Addr} (h : w.heap[b]? = some (nodeObj c l ⟨s, o, n, k⟩ r la ra)) (x : Obj) :
    (w.alloc x).cell? ⟨b, 0, none⟩ = some (.int .i64 s) ∧ (w.alloc x).cell? ⟨b, 1, none⟩ = some (.int .i64 o) ∧ (w.alloc x).cell? ⟨b, 2, none⟩ = some (.int .i64 n) ∧ (w.alloc x).cell? ⟨b, 3, none⟩ = some (.int .i64 k) ∧ (w.alloc x).cell? ⟨b, 10, none⟩ = some (.pointer la) ∧ (w.alloc x).cell? ⟨b, 11, none⟩ = some (.pointer ra) := by
  have q := ncells (nkeep h (bAlloc (Below.refl _ _) x))
  exact ⟨q.c0, q.c1, q.c2, q.c3, q.c10, q.c11⟩

/-- Block b of W is a variable that holds a piece. -/
def PcAt (W : World) (b : Nat) (s o n k : Int) : Prop :=
  b < W.heap.size ∧ W.cell? ⟨b, 0, none⟩ = some (.int .i64 s) ∧ W.cell? ⟨b, 1, none⟩ = some (.int .i64 o) ∧ W.cell? ⟨b, 2, none⟩ = some (.int .i64 n) ∧ W.cell? ⟨b, 3, none⟩ = some (.int .i64 k) ∧
    W.frozen? ⟨b, 0, none⟩ = false ∧ W.frozen? ⟨b, 1, none⟩ = false ∧ W.frozen? ⟨b, 2, none⟩ = false ∧ W.frozen? ⟨b, 3, none⟩ = false
theorem PcAt.new (w : World) (s o n k : Int) : PcAt (w.alloc (.cells #[.int .i64 s, .int .i64 o, .int .i64 n, .int .i64 k] 59)) w.heap.size s o n k := by
  unfold PcAt; simp
theorem PcAt.keep {W w1 : World} {b : Nat} {s o n k : Int} (h : PcAt W b s o n k) (hB : Below W.heap.size W w1) : PcAt w1 b s o n k := by
  obtain ⟨hb, h0, h1, h2, h3, f0, f1, f2, f3⟩ := h
  have hz := hB.size
  refine ⟨by omega, ?_, ?_, ?_, ?_, ?_, ?_, ?_, ?_⟩
  · rw [hB.cell (p := ⟨b, 0, none⟩) hb]; exact h0
  · rw [hB.cell (p := ⟨b, 1, none⟩) hb]; exact h1
  · rw [hB.cell (p := ⟨b, 2, none⟩) hb]; exact h2
  · rw [hB.cell (p := ⟨b, 3, none⟩) hb]; exact h3
  · rw [hB.frozen (p := ⟨b, 0, none⟩) hb]; exact f0
  · rw [hB.frozen (p := ⟨b, 1, none⟩) hb]; exact f1
  · rw [hB.frozen (p := ⟨b, 2, none⟩) hb]; exact f2
  · rw [hB.frozen (p := ⟨b, 3, none⟩) hb]; exact f3
theorem below_put4 {a w : World} {b : Nat} (h : Below a.heap.size a w) (hb : a.heap.size ≤ b) (x0 x1 x2 x3 : Value) :
    Below a.heap.size a ((((w.setCell ⟨b, 0, none⟩ x0).setCell ⟨b, 1, none⟩ x1).setCell ⟨b, 2, none⟩ x2).setCell ⟨b, 3, none⟩ x3) :=
  (((h.setCell hb x0).setCell hb x1).setCell hb x2).setCell hb x3

set_option maxHeartbeats 4000000 in
theorem get_any : ∀ (t : Tr) (i : Nat) (a : Option Addr) (w : World), i < t.size → t.size ≤ 1048576 → Hid (At w t a) →
    Calls Tryz.prog 88 #[.pointer a, .int .i64 (i : Nat)] w fun e w' => ∃ s o n k, t.list[i]? = some ⟨s, o, n, k⟩ ∧ e = .returned (.agg #[.int .i64 s, .int .i64 o, .int .i64 n, .int .i64 k]) ∧ Below w.heap.size w w'
  | (Tr.mk none), i, a, w, hi, _, h => absurd hi (by simp [Tr.size])
  | (Tr.mk (some (c, l, ⟨s, o, n, k⟩, r))), i, a, w, hi, hz, h => by
    have ihl := get_any l
    have ihr := get_any r
    obtain ⟨b, la, ra, rfl, hn, hl, hr⟩ := h.out
    have HL : Hid (At w l la) := hl
    have HR : Hid (At w r ra) := hr
    have c10 := fun x => (sl hn x).2.2.2.2.1
    have c11 := fun x => (sl hn x).2.2.2.2.2
    have c0 := fun x => (sl hn x).1
    have c1 := fun x => (sl hn x).2.1
    have c2 := fun x => (sl hn x).2.2.1
    have c3 := fun x => (sl hn x).2.2.2.1
    clear hn hl hr h
    simp only [Tr.size] at hi hz
    rcases Nat.lt_trichotomy i l.size with h1 | h1 | h1
    · have HI : Hid (l.size ≤ 1048576 ∧ i < l.size) := ⟨by omega, h1⟩
      have g1 : (i : Int) < (l.size : Int) := by omega
      have e := list_left (c := c) (p := ⟨s, o, n, k⟩) (r := r) h1
      rw [e]
      clear e hi hz h1 c11 c0 c1 c2 c3
      have IHL : Hid (∀ (i : Nat) (a : Option Addr) (w : World), i < l.size → l.size ≤ 1048576 → Hid (At w l a) →
        Calls Tryz.prog 88 #[.pointer a, .int .i64 (i : Nat)] w fun e w' => ∃ s o n k, l.list[i]? = some ⟨s, o, n, k⟩ ∧ e = .returned (.agg #[.int .i64 s, .int .i64 o, .int .i64 n, .int .i64 k]) ∧ Below w.heap.size w w') := ihl
      clear ihl ihr
      go_enter Tryz.func88, Tryz.ntmps88
      go_wp2_with (first | (go_at_call 86; refine (pieces_any l _ _ (HL.out.alloc _)).mono ?_; rintro e w' ⟨rfl, rfl⟩)
                         | (go_at_call 88; refine (IHL.out i la _ HI.out.2 HI.out.1 (HL.out.alloc _)).mono ?_; rintro e w9 ⟨s9, o9, n9, k9, hg9, rfl, hb9⟩; obtain ⟨-, z0, z1, z2, z3, f0, f1, f2, f3⟩ := (PcAt.new w 0 0 0 0).keep hb9))
      refine bodyPost_ret (v := .agg #[.int .i64 s9, .int .i64 o9, .int .i64 n9, .int .i64 k9]) (by simp [results, Tryz.results88, go_sem, z0, z1, z2, z3]) rfl ⟨s9, o9, n9, k9, hg9, rfl, ?_⟩
      exact below_put4 (bA hb9) (Nat.le_refl _) _ _ _ _
    · subst h1
      rw [list_here rfl]
      clear ihl ihr hi hz c11
      go_enter Tryz.func88, Tryz.ntmps88
      go_wp2_with (first | (go_at_call 86; refine (pieces_any l _ _ (HL.out.alloc _)).mono ?_; rintro e w' ⟨rfl, rfl⟩))
      refine bodyPost_ret (v := .agg #[.int .i64 s, .int .i64 o, .int .i64 n, .int .i64 k]) (by simp [results, Tryz.results88, go_sem]) rfl ⟨s, o, n, k, rfl, rfl, ?_⟩
      first | exact bAlloc (Below.refl _ _) _ | exact below_put4 (bAlloc (Below.refl _ _) _) (Nat.le_refl _) _ _ _ _
    · have HI : Hid (r.size ≤ 1048576 ∧ i - l.size - 1 < r.size) := ⟨by omega, by omega⟩
      have g1 : (l.size : Int) < (i : Int) := by omega
      have g2 : ((i : Int) == (l.size : Int)) = false := by rw [beq_eq_false_iff_ne]; omega
      have g3 : wrap64 (wrap64 ((i : Int) - (l.size : Int)) - 1) = ((i - l.size - 1 : Nat) : Int) := by rw [w64 (x := (i : Int) - (l.size : Int)) (by omega) (by omega), w64 (by omega) (by omega)]; omega
      have e := list_right (c := c) (p := ⟨s, o, n, k⟩) (r := r) h1
      rw [e]
      have IHR : Hid (∀ (i : Nat) (a : Option Addr) (w : World), i < r.size → r.size ≤ 1048576 → Hid (At w r a) →
        Calls Tryz.prog 88 #[.pointer a, .int .i64 (i : Nat)] w fun e w' => ∃ s o n k, r.list[i]? = some ⟨s, o, n, k⟩ ∧ e = .returned (.agg #[.int .i64 s, .int .i64 o, .int .i64 n, .int .i64 k]) ∧ Below w.heap.size w w') := ihr
      clear e hi hz h1 c0 c1 c2 c3 ihl ihr
      go_enter Tryz.func88, Tryz.ntmps88
      go_wp2_with (first | (go_at_call 86; refine (pieces_any l _ _ (HL.out.alloc _)).mono ?_; rintro e w' ⟨rfl, rfl⟩)
                         | (go_at_call 88; refine (IHR.out (i - l.size - 1) ra _ HI.out.2 HI.out.1 (HR.out.alloc _)).mono ?_; rintro e w9 ⟨s9, o9, n9, k9, hg9, rfl, hb9⟩; obtain ⟨-, z0, z1, z2, z3, f0, f1, f2, f3⟩ := (PcAt.new w 0 0 0 0).keep hb9))
      refine bodyPost_ret (v := .agg #[.int .i64 s9, .int .i64 o9, .int .i64 n9, .int .i64 k9]) (by simp [results, Tryz.results88, go_sem, z0, z1, z2, z3]) rfl ⟨s9, o9, n9, k9, hg9, rfl, ?_⟩
      exact below_put4 (bA hb9) (Nat.le_refl _) _ _ _ _
end Go.Proofs.YtmhpeppbhjpkiaaGreat

/- The contracts of split and of together. -/
namespace Go.Proofs.YtmhpeppbhjpkiaaGreat
open Go.RowKit

/-- The call gave two trees; nothing that was there has turned. -/
def Gave2 (w : World) (t u : Tr) (e : Ending) (w' : World) : Prop := ∃ x y, e = .returned (.tuple #[.pointer x, .pointer y]) ∧ At w' t x ∧ At w' u y ∧ Below w.heap.size w w'

theorem Tr.fine.list {t : Tr} (h : t.fine) : fineL t.list := (Tr.fine_list t).1 h

set_option maxHeartbeats 4000000 in
theorem split_left (c : Bool) (l r : Tr) (s o n k : Int) (i : Nat) (a : Option Addr) (w : World) (hi : Hid (i ≤ l.size)) (hb : Hid ((Tr.mk (some (c, l, ⟨s, o, n, k⟩, r)))).bal) (hf : Hid ((Tr.mk (some (c, l, ⟨s, o, n, k⟩, r)))).fine) (h : Hid (At w ((Tr.mk (some (c, l, ⟨s, o, n, k⟩, r)))) a))
    (IH : Hid (∀ a w, At w l a → Calls Tryz.prog 87 #[.pointer a, .int .i64 (i : Nat)] w fun e w' => Gave2 w (Tr.splitT l i).1 (Tr.splitT l i).2 e w')) :
    Calls Tryz.prog 87 #[.pointer a, .int .i64 (i : Nat)] w fun e w' => Gave2 w (Tr.splitT l i).1 (Tr.joinT (Tr.splitT l i).2 ⟨s, o, n, k⟩ r.blk) e w' := by
  obtain ⟨b, la, ra, rfl, hn, hl, hr⟩ := h.out
  have HL : Hid (At w l la) := hl
  have HR : Hid (At w r ra) := hr
  have HN : Hid (w.heap[b]? = some (nodeObj c l ⟨s, o, n, k⟩ r la ra)) := hn
  have c10 := (ncells hn).c10
  have g1 : (i : Int) ≤ (l.size : Int) := by have := hi.out; omega
  clear hn hl hr h
  go_enter Tryz.func87, Tryz.ntmps87
  go_wp2_with (first | (go_at_call 86; refine (pieces_any l _ _ HL).mono ?_; rintro e w' ⟨rfl, rfl⟩)
                     | (go_at_call 87; refine (IH.out la _ HL.out).mono ?_; rintro e w9 ⟨xa, ya, rfl, hx9, hy9, hb9⟩))
  have HX : Hid (At w9 (Tr.splitT l i).1 xa) := hx9
  have HY : Hid (At w9 (Tr.splitT l i).2 ya) := hy9
  have HR9 : Hid (At w9 r ra) := HR.out.keep hb9
  have HN9 : Hid (w9.heap[b]? = some (nodeObj c l ⟨s, o, n, k⟩ r la ra)) := nkeep HN.out hb9
  obtain ⟨d0, d1, d2, d3, d10, d11⟩ := s7 HN9.out
  clear hx9 hy9 HL HR HN c10 IH g1
  go_region_held3 (fun w' => w'.cell? ⟨b, 0, none⟩ = some (.int .i64 s) ∧ w'.cell? ⟨b, 1, none⟩ = some (.int .i64 o) ∧ w'.cell? ⟨b, 2, none⟩ = some (.int .i64 n) ∧ w'.cell? ⟨b, 3, none⟩ = some (.int .i64 k) ∧ w'.cell? ⟨b, 10, none⟩ = some (.pointer la) ∧ w'.cell? ⟨b, 11, none⟩ = some (.pointer ra)) (first | assumption | simp [*, go_sem])
    (first | (go_at_call 92; refine (blackened_any r ra _ hf.out.right HR9.out.drew).mono ?_; rintro e w7 ⟨za, rfl, hat7, hb7⟩; have k7 := s7 (nkeep HN9.out (bD hb7)))
           | (go_at_call 52; refine (join_any s o n k (Tr.splitT l i).2 r.blk ya za _ (hf.out.list.sub (by rw [Tr.blk_list, (Tr.splitT_list l i).2]; simp only [Tr.list]; exact List.Sublist.append (List.drop_sublist _ _) (List.Sublist.refl _))) (Tr.splitT_whole l i hb.out.1).2 (Tr.blk_whole hb.out.2.1) (HY.out.keep (bD hb7)) hat7).mono ?_; rintro e w6 ⟨ja, rfl, hat6, hb6⟩; have k6 := s7 (nkeep (nkeep HN9.out (bD hb7)) hb6)))
  go_wp2
  go_ret2
  exact ⟨_, _, rfl, (HX.out.keep (bD hb7)).keep hb6, hat6, hb9.trans (((bD hb7).trans (hb6.mono (bD hb7).size)).mono hb9.size)⟩

set_option maxHeartbeats 4000000 in
theorem split_right (c : Bool) (l r : Tr) (s o n k : Int) (i : Nat) (a : Option Addr) (w : World) (hi : Hid (l.size < i)) (hz : Hid (i ≤ 1048576)) (hb : Hid ((Tr.mk (some (c, l, ⟨s, o, n, k⟩, r)))).bal) (hf : Hid ((Tr.mk (some (c, l, ⟨s, o, n, k⟩, r)))).fine) (h : Hid (At w ((Tr.mk (some (c, l, ⟨s, o, n, k⟩, r)))) a))
    (IH : Hid (∀ a w, At w r a → Calls Tryz.prog 87 #[.pointer a, .int .i64 ((i - l.size - 1 : Nat) : Int)] w fun e w' => Gave2 w (Tr.splitT r (i - l.size - 1)).1 (Tr.splitT r (i - l.size - 1)).2 e w')) :
    Calls Tryz.prog 87 #[.pointer a, .int .i64 (i : Nat)] w fun e w' => Gave2 w (Tr.joinT l.blk ⟨s, o, n, k⟩ (Tr.splitT r (i - l.size - 1)).1) (Tr.splitT r (i - l.size - 1)).2 e w' := by
  obtain ⟨b, la, ra, rfl, hn, hl, hr⟩ := h.out
  have HL : Hid (At w l la) := hl
  have HR : Hid (At w r ra) := hr
  have HN : Hid (w.heap[b]? = some (nodeObj c l ⟨s, o, n, k⟩ r la ra)) := hn
  have c10 := (ncells hn).c10
  have c11 := (ncells hn).c11
  have g1 : (l.size : Int) < (i : Int) := by have := hi.out; omega
  have g3 : wrap64 (wrap64 ((i : Int) - (l.size : Int)) - 1) = ((i - l.size - 1 : Nat) : Int) := by
    have h1 := hi.out; have h2 := hz.out
    rw [w64 (x := (i : Int) - (l.size : Int)) (by omega) (by omega), w64 (by omega) (by omega)]; omega
  clear hn hl hr h
  go_enter Tryz.func87, Tryz.ntmps87
  go_wp2_with (first | (go_at_call 86; refine (pieces_any l _ _ HL).mono ?_; rintro e w' ⟨rfl, rfl⟩)
                     | (go_at_call 87; refine (IH.out ra _ HR.out).mono ?_; rintro e w9 ⟨xa, ya, rfl, hx9, hy9, hb9⟩))
  have HX : Hid (At w9 (Tr.splitT r (i - l.size - 1)).1 xa) := hx9
  have HY : Hid (At w9 (Tr.splitT r (i - l.size - 1)).2 ya) := hy9
  have HL9 : Hid (At w9 l la) := HL.out.keep hb9
  have HN9 : Hid (w9.heap[b]? = some (nodeObj c l ⟨s, o, n, k⟩ r la ra)) := nkeep HN.out hb9
  obtain ⟨d0, d1, d2, d3, d10, d11⟩ := s7 HN9.out
  clear hx9 hy9 HL HR HN c10 IH g1
  go_region_held3 (fun w' => w'.cell? ⟨b, 0, none⟩ = some (.int .i64 s) ∧ w'.cell? ⟨b, 1, none⟩ = some (.int .i64 o) ∧ w'.cell? ⟨b, 2, none⟩ = some (.int .i64 n) ∧ w'.cell? ⟨b, 3, none⟩ = some (.int .i64 k) ∧ w'.cell? ⟨b, 10, none⟩ = some (.pointer la) ∧ w'.cell? ⟨b, 11, none⟩ = some (.pointer ra)) (first | assumption | simp [*, go_sem])
    (first | (go_at_call 92; refine (blackened_any l la _ hf.out.left HL9.out.drew).mono ?_; rintro e w7 ⟨za, rfl, hat7, hb7⟩; have k7 := s7 (nkeep HN9.out (bD hb7)))
           | (go_at_call 52; refine (join_any s o n k l.blk (Tr.splitT r (i - l.size - 1)).1 za xa _ (hf.out.list.sub (by rw [Tr.blk_list, (Tr.splitT_list r _).1]; simp only [Tr.list]; exact List.Sublist.append (List.Sublist.refl _) (List.Sublist.cons_cons _ (List.take_sublist _ _)))) (Tr.blk_whole hb.out.1) (Tr.splitT_whole r _ hb.out.2.1).1 hat7 (HX.out.keep (bD hb7))).mono ?_; rintro e w6 ⟨ja, rfl, hat6, hb6⟩; have k6 := s7 (nkeep (nkeep HN9.out (bD hb7)) hb6)))
  go_wp2
  go_ret2
  exact ⟨_, _, rfl, hat6, (HY.out.keep (bD hb7)).keep hb6, hb9.trans (((bD hb7).trans (hb6.mono (bD hb7).size)).mono hb9.size)⟩

set_option maxHeartbeats 400000 in
theorem split_nil (i : Int) (w : World) : Calls Tryz.prog 87 #[.pointer none, .int .i64 i] w fun e w' => Gave2 w (Tr.mk none) (Tr.mk none) e w' := by
  go_enter Tryz.func87, Tryz.ntmps87
  go_wp2
  go_ret2
  exact ⟨_, _, rfl, rfl, rfl, Below.refl _ _⟩

theorem split_any : ∀ (t : Tr) (i : Nat) (a : Option Addr) (w : World), i ≤ t.size → t.bal → t.fine → At w t a →
    Calls Tryz.prog 87 #[.pointer a, .int .i64 (i : Nat)] w fun e w' => Gave2 w (Tr.splitT t i).1 (Tr.splitT t i).2 e w'
  | (Tr.mk none), i, a, w, _, _, _, h => by
    have e : a = none := h
    subst e
    exact split_nil i w
  | (Tr.mk (some (c, l, ⟨s, o, n, k⟩, r))), i, a, w, hi, hb, hf, h => by
    have z := hf.2
    simp only [Tr.size] at hi z
    by_cases hc : i ≤ l.size
    · simp only [Tr.splitT, if_pos hc]
      exact split_left c l r s o n k i a w hc hb hf h (fun a w h => split_any l i a w hc hb.1 hf.left h)
    · simp only [Tr.splitT, if_neg hc]
      exact split_right c l r s o n k i a w (by unfold Hid; omega) (by unfold Hid; omega) hb hf h (fun a w h => split_any r (i - l.size - 1) a w (by omega) hb.2.1 hf.right h)

theorem last_sub {L R : List Pc} {i : Nat} {p : Pc} (h : L[i]? = some p) : (L.take i ++ p :: R).Sublist (L ++ R) := by
  have e := List.getElem?_eq_some_iff.1 h
  conv => rhs; rw [← List.take_append_drop i L, List.drop_eq_getElem_cons e.1, e.2]
  rw [List.append_assoc, List.cons_append]
  exact List.Sublist.append (List.Sublist.refl _) (List.Sublist.cons_cons _ (List.sublist_append_right _ _))

set_option maxHeartbeats 4000000 in
theorem together_two (l r : Tr) (p : Pc) (la ra : Addr) (w : World) (hp : Hid (l.list[l.size - 1]? = some p)) (h1 : Hid (1 ≤ l.size)) (hz : Hid (fineL (l.list ++ r.list))) (wl : Hid l.whole) (wr : Hid r.whole) (hl : Hid (At w l (some la))) (hr : Hid (At w r (some ra))) :
    Calls Tryz.prog 51 #[.pointer (some la), .pointer (some ra)] w fun e w' => Gave w (Tr.joinT (Tr.splitT l (l.size - 1)).1 p r) e w' := by
  have FL : Hid l.fine := hz.out.tree (List.sublist_append_left _ _)
  have g3 : wrap64 ((l.size : Int) - 1) = ((l.size - 1 : Nat) : Int) := by
    have a := h1.out; have b := FL.out.2
    rw [w64 (by omega) (by omega)]; omega
  obtain ⟨s, o, n, k⟩ := p
  go_enter Tryz.func51, Tryz.ntmps51
  go_wp2_with (first | (go_at_call 86; refine (pieces_any l _ _ hl).mono ?_; rintro e w' ⟨rfl, rfl⟩)
                     | (go_at_call 87; refine (split_any l (l.size - 1) _ _ (Nat.sub_le _ _) wl.out.1 FL.out hl.out).mono ?_; rintro e w9 ⟨xa, ya, rfl, hx9, hy9, hb9⟩)
                     | (go_at_call 88; refine (get_any l (l.size - 1) _ _ (by have := h1.out; omega) FL.out.2 (hl.out.keep hb9)).mono ?_; rintro e w8 ⟨s', o', n', k', hg8, rfl, hb8⟩)
                     | (go_at_call 52; refine (join_any s' o' n' k' (Tr.splitT l (l.size - 1)).1 r xa _ _ (by rw [(Tr.splitT_list l _).1]; exact hz.out.sub (last_sub hg8)) (Tr.splitT_whole l _ wl.out.1).1 wr.out (hx9.keep hb8) ((hr.out.keep hb9).keep hb8)).mono ?_; rintro e w7 ⟨ja, rfl, hat7, hb7⟩))
  go_ret
  have e : (⟨s', o', n', k'⟩ : Pc) = ⟨s, o, n, k⟩ := by have := hp.out; rw [hg8] at this; exact Option.some.inj this
  rw [← e]
  exact ⟨_, rfl, hat7, hb9.trans ((hb8.trans (hb7.mono hb8.size)).mono hb9.size)⟩

set_option maxHeartbeats 400000 in
theorem together_l (ra : Option Addr) (r : Tr) (w : World) (hr : Hid (At w r ra)) : Calls Tryz.prog 51 #[.pointer none, .pointer ra] w fun e w' => Gave w r e w' := by
  go_enter Tryz.func51, Tryz.ntmps51
  go_wp2
  go_ret
  exact ⟨_, rfl, hr.out, Below.refl _ _⟩
set_option maxHeartbeats 400000 in
theorem together_r (la : Addr) (l : Tr) (w : World) (hl : Hid (At w l (some la))) : Calls Tryz.prog 51 #[.pointer (some la), .pointer none] w fun e w' => Gave w l e w' := by
  go_enter Tryz.func51, Tryz.ntmps51
  go_wp2
  go_ret
  exact ⟨_, rfl, hl.out, Below.refl _ _⟩

theorem together_any (l r : Tr) (la ra : Option Addr) (w : World) (hz : fineL (l.list ++ r.list)) (wl : l.whole) (wr : r.whole) (hl : At w l la) (hr : At w r ra) :
    Calls Tryz.prog 51 #[.pointer la, .pointer ra] w fun e w' => Gave w (Tr.gluT l r) e w' := by
  match l, r with
  | (Tr.mk none), r =>
    have e : la = none := hl
    subst e
    exact together_l ra r w hr
  | (Tr.mk (some (c, a, q, b))), (Tr.mk none) =>
    have e : ra = none := hr
    obtain ⟨bl, _, _, rfl, -⟩ := id hl
    subst e
    exact together_r _ _ w hl
  | (Tr.mk (some (c, a, q, b))), (Tr.mk (some (c', a', q', b'))) =>
    obtain ⟨bl, _, _, rfl, -⟩ := id hl
    obtain ⟨bl', _, _, rfl, -⟩ := id hr
    have z := Tr.size_list ((Tr.mk (some (c, a, q, b))))
    have h1 : 1 ≤ ((Tr.mk (some (c, a, q, b)))).size := by simp only [Tr.size]; omega
    rcases hp : ((Tr.mk (some (c, a, q, b)))).list[((Tr.mk (some (c, a, q, b)))).size - 1]? with _ | p
    · have := List.getElem?_eq_none_iff.1 hp; omega
    · have e : Tr.gluT ((Tr.mk (some (c, a, q, b)))) ((Tr.mk (some (c', a', q', b')))) = Tr.joinT (Tr.splitT ((Tr.mk (some (c, a, q, b)))) (((Tr.mk (some (c, a, q, b)))).size - 1)).1 p ((Tr.mk (some (c', a', q', b')))) := by
        simp only [Tr.gluT, hp]
      rw [e]
      exact together_two _ _ p _ _ w hp h1 hz wl wr hl hr
end Go.Proofs.YtmhpeppbhjpkiaaGreat

/- The contracts of fit and of build. -/
namespace Go.Proofs.YtmhpeppbhjpkiaaGreat
open Go.RowKit

/-- Is a piece of n bytes and k line ends fit? -/
def fitB (n k : Int) : Bool := decide (1 ≤ n ∧ n ≤ 2147483647 ∧ 0 ≤ k ∧ k ≤ n)
theorem fitB_iff (s o n k : Int) : fitB n k = true ↔ Pc.fit ⟨s, o, n, k⟩ := by unfold fitB Pc.fit; simp

theorem ret_bool {a b : Bool} (h : a = b) : Ending.returned (.bool a) = .returned (.bool b) := by rw [h]

set_option maxHeartbeats 400000 in
theorem fit_any (s o n k : Int) (w : World) :
    Calls Tryz.prog 50 #[.agg #[.int .i64 s, .int .i64 o, .int .i64 n, .int .i64 k]] w fun e w' => e = .returned (.bool (fitB n k)) ∧ w' = w.alloc (.cells #[.int .i64 s, .int .i64 o, .int .i64 n, .int .i64 k] 59) := by
  go_enter Tryz.func50, Tryz.ntmps50
  go_wp2
  all_goals go_ret
  all_goals refine ⟨ret_bool ?_, rfl⟩
  all_goals (rw [Bool.eq_iff_iff]; unfold fitB; simp only [decide_eq_true_eq]; first | omega | (simp; done) | (simp; omega))

set_option maxHeartbeats 400000 in
theorem refFit_any (s o n k : Int) (w : World) :
    Calls Tryz.prog 95 #[.agg #[.int .i64 s, .int .i64 o, .int .i64 n, .int .i64 k]] w fun e w' => e = .returned (.bool (fitB n k)) ∧ w' = w.alloc (.cells #[.int .i64 s, .int .i64 o, .int .i64 n, .int .i64 k] 59) := by
  go_enter Tryz.func95, Tryz.ntmps95
  go_wp2
  all_goals go_ret
  all_goals refine ⟨ret_bool ?_, rfl⟩
  all_goals (rw [Bool.eq_iff_iff]; unfold fitB; simp only [decide_eq_true_eq]; first | omega | (simp; done) | (simp; omega))

/-- The pieces of L lie one behind the other in block b of W, from the cell off on. -/
def Row (W : World) (b off : Nat) (L : List Pc) : Prop :=
  ∀ j p, L[j]? = some p → W.cell? ⟨b, off + j * 4, none⟩ = some (.int .i64 p.s) ∧ W.cell? ⟨b, off + j * 4 + 1, none⟩ = some (.int .i64 p.o) ∧ W.cell? ⟨b, off + j * 4 + 2, none⟩ = some (.int .i64 p.l) ∧ W.cell? ⟨b, off + j * 4 + 3, none⟩ = some (.int .i64 p.n)

/-- A list value whose pieces are L. -/
def Rdb (W : World) (v : Value) (L : List Pc) : Prop := ∃ ao n c, v = .slice ao n c ∧ n = L.length ∧ n ≤ c ∧ (L = [] ∨ ∃ b off, ao = some ⟨b, off, none⟩ ∧ Row W b off L)

theorem cell_lt {w : World} {b j : Nat} {v : Value} (h : w.cell? ⟨b, j, none⟩ = some v) : b < w.heap.size := by
  rcases Nat.lt_or_ge b w.heap.size with h' | h'
  · exact h'
  · simp [World.cell?, Array.getElem?_eq_none h'] at h
theorem Row.keep {w w' : World} {b off : Nat} {L : List Pc} (h : Row w b off L) (hb : Below w.heap.size w w') : Row w' b off L := by
  intro j p hj
  obtain ⟨h0, h1, h2, h3⟩ := h j p hj
  have lt := cell_lt h0
  refine ⟨?_, ?_, ?_, ?_⟩ <;> (rw [hb.cell lt]; assumption)
theorem Row.take {w : World} {b off : Nat} {L : List Pc} (h : Row w b off L) (m : Nat) : Row w b off (L.take m) := by
  intro j p hj
  rw [List.getElem?_take] at hj
  split at hj
  · exact h j p hj
  · cases hj
theorem Row.drop {w : World} {b off : Nat} {L : List Pc} (h : Row w b off L) (m : Nat) : Row w b (off + m * 4) (L.drop m) := by
  intro j p hj
  rw [List.getElem?_drop] at hj
  have := h (m + j) p hj
  rw [show off + (m + j) * 4 = off + m * 4 + j * 4 from by omega] at this
  exact this
theorem fineL_parts {L : List Pc} {m : Nat} {p : Pc} (h : fineL L) (hp : L[m]? = some p) : fineL (L.take m ++ p :: L.drop (m + 1)) := by
  have e := List.getElem?_eq_some_iff.1 hp
  have : L.take m ++ p :: L.drop (m + 1) = L := by
    conv => rhs; rw [← List.take_append_drop m L, List.drop_eq_getElem_cons e.1, e.2]
  rw [this]; exact h
/-- the cells of one piece of a row -/
theorem row4 {w : World} {b off m : Nat} {L : List Pc} {s o n k : Int} (h : Row w b off L) (hp : L[m]? = some ⟨s, o, n, k⟩) :
    w.cell? ⟨b, off + m * 4, none⟩ = some (.int .i64 s) ∧ w.cell? ⟨b, off + m * 4 + 1, none⟩ = some (.int .i64 o) ∧ w.cell? ⟨b, off + m * 4 + 2, none⟩ = some (.int .i64 n) ∧ w.cell? ⟨b, off + m * 4 + 3, none⟩ = some (.int .i64 k) := h m _ hp

end Go.Proofs.YtmhpeppbhjpkiaaGreat

