/- The contract of joinLeft: a tree and a piece put down the left edge of another. -/
import Derived.Test.YtpifjghhlcjedaaJoinR2
namespace Go.Proofs.Ytpifjghhlcjedaa
open Go.RowKit

set_option maxHeartbeats 4000000 in
theorem joinLeft_base (s o n k : Int) (l r : Tr) (la ra : Option Addr) (w : World) (hf : Hid (fineL (l.list ++ ⟨s, o, n, k⟩ :: r.list))) (hred : r.red = false) (hbh : l.bh = r.bh) (hl : Hid (At w l la)) (hr : Hid (At w r ra)) :
    Calls Try.prog 94 #[.pointer la, .agg #[.int .i64 s, .int .i64 o, .int .i64 n, .int .i64 k], .pointer ra] w fun e w' => Gave w ((Tr.mk (some (true, l, ⟨s, o, n, k⟩, r)))) e w' := by
  go_enter Try.func94, Try.ntmps94
  go_wp2_with (first | (go_at_call 76; refine (isRed_any r _ _ (hr.out.alloc _)).mono ?_; rintro e w' ⟨rfl, rfl⟩; rw [hred])
                     | (go_at_call_of 90 (Value.pointer la); refine (black_any l _ _ (hl.out.alloc _)).mono ?_; rintro e w' ⟨rfl, rfl⟩; rw [hbh])
                     | (go_at_call_of 90 (Value.pointer ra); refine (black_any r _ _ (hr.out.alloc _)).mono ?_; rintro e w' ⟨rfl, rfl⟩)
                     | (go_at_call 91; refine (make_any true l s o n k r la ra _ (hf.out.of rfl) (hl.out.alloc _) (hr.out.alloc _)).mono ?_; rintro e w9 ⟨b9, rfl, hat9, hb9⟩))
  go_ret
  exact ⟨_, rfl, hat9, bA hb9⟩

set_option maxHeartbeats 4000000 in
theorem joinLeft_red (s o n k : Int) (a b l : Tr) (qs qo qn qk : Int) (m : Tr) (la ra : Option Addr) (w : World) (hf : Hid (fineL (l.list ++ ⟨s, o, n, k⟩ :: (a.list ++ ⟨qs, qo, qn, qk⟩ :: b.list)))) 
    (hm : Hid (m.list = l.list ++ ⟨s, o, n, k⟩ :: a.list)) (hl : Hid (At w l la)) (hr : Hid (At w ((Tr.mk (some (true, a, ⟨qs, qo, qn, qk⟩, b)))) ra))
    (IH : Hid (∀ w aa, At w l la → At w a aa → Calls Try.prog 94 #[.pointer la, .agg #[.int .i64 s, .int .i64 o, .int .i64 n, .int .i64 k], .pointer aa] w fun e w' => Gave w m e w')) :
    Calls Try.prog 94 #[.pointer la, .agg #[.int .i64 s, .int .i64 o, .int .i64 n, .int .i64 k], .pointer ra] w fun e w' => Gave w ((Tr.mk (some (true, m, ⟨qs, qo, qn, qk⟩, b)))) e w' := by
  obtain ⟨bl, aa, ba, rfl, hn, ha, hb⟩ := hr.out
  have HA : Hid (At w a aa) := ha
  have HB : Hid (At w b ba) := hb
  have HN : Hid (w.heap[bl]? = some (nodeObj true a ⟨qs, qo, qn, qk⟩ b aa ba)) := hn
  have hlt := (ncells hn).lt
  have c10 := s10 hn
  clear hn ha hb
  go_enter Try.func94, Try.ntmps94
  go_wp2_with (first | (go_at_call 76; refine (isRed_any _ _ _ (hr.out.alloc _)).mono ?_; rintro e w' ⟨rfl, rfl⟩; rw [show ((Tr.mk (some (true, a, ⟨qs, qo, qn, qk⟩, b)))).red = true from rfl])
                     | (go_at_call_of 90 (Value.pointer la); refine (black_any l _ _ (hl.out.alloc _)).mono ?_; rintro e w' ⟨rfl, rfl⟩)
                     | (go_at_call 90; refine (black_any _ _ _ (hr.out.alloc _)).mono ?_; rintro e w' ⟨rfl, rfl⟩))
  go_region_held3 (fun w' => w'.cell? ⟨w.heap.size, 0, none⟩ = some (.int .i64 s) ∧ w'.cell? ⟨w.heap.size, 1, none⟩ = some (.int .i64 o) ∧ w'.cell? ⟨w.heap.size, 2, none⟩ = some (.int .i64 n) ∧ w'.cell? ⟨w.heap.size, 3, none⟩ = some (.int .i64 k) ∧ w'.cell? ⟨bl, 10, none⟩ = some (.pointer aa)) (first | assumption | simp [*, go_sem])
    (first | (go_at_call 94; refine (IH.out _ aa (hl.out.alloc _).drew (HA.out.alloc _).drew).mono ?_; rintro e w9 ⟨ma, rfl, hat9, hb9⟩; have k9 := s5 c10 hb9 hlt))
  have L9 := bA (bD hb9)
  have HM : Hid (At w9 m ma) := hat9
  have hr9 : Hid (At w9 ((Tr.mk (some (true, a, ⟨qs, qo, qn, qk⟩, b)))) (some ⟨bl, 0, none⟩)) := hr.out.keep L9
  have HB9 : Hid (At w9 b ba) := HB.out.keep L9
  have HN9 : Hid (w9.heap[bl]? = some (nodeObj true a ⟨qs, qo, qn, qk⟩ b aa ba)) := nkeep HN.out L9
  obtain ⟨d0, d1, d2, d3, d10, d11⟩ := s7 HN9.out
  clear k9 hat9 hb9 hl HA HB HN hr c10 hlt IH
  go_wp2_with (first | (go_at_call_of 76 (Value.pointer ma); refine (isRed_any _ _ _ HM).mono ?_; rintro e w' ⟨rfl, rfl⟩)
                     | (go_at_call 76; refine (isRed_any _ _ _ hr9).mono ?_; rintro e w' ⟨rfl, rfl⟩; rw [show ((Tr.mk (some (true, a, ⟨qs, qo, qn, qk⟩, b)))).red = true from rfl]))
  go_region_held3 (fun w' => w'.cell? ⟨bl, 0, none⟩ = some (.int .i64 qs) ∧ w'.cell? ⟨bl, 1, none⟩ = some (.int .i64 qo) ∧ w'.cell? ⟨bl, 2, none⟩ = some (.int .i64 qn) ∧ w'.cell? ⟨bl, 3, none⟩ = some (.int .i64 qk) ∧ w'.cell? ⟨bl, 10, none⟩ = some (.pointer aa) ∧ w'.cell? ⟨bl, 11, none⟩ = some (.pointer ba)) (first | assumption | simp [*, go_sem])
    (first | (go_at_call 76; refine (isRed_any _ _ _ hr9.out.drew).mono ?_; rintro e w' ⟨rfl, rfl⟩; rw [show ((Tr.mk (some (true, a, ⟨qs, qo, qn, qk⟩, b)))).red = true from rfl])
           | (go_at_call 91; refine (make_any true m qs qo qn qk b ma ba _ (hf.out.of (by simp only [Tr.list] at *; rw [hm.out]; simp)) HM.out.drew HB9.out.drew).mono ?_; rintro e w8 ⟨b8, rfl, hat8, hb8⟩; have k8 := s7 (nkeep HN9.out (bD hb8))))
  go_wp2
  go_ret
  exact ⟨_, rfl, hat8, L9.trans ((bD hb8).mono L9.size)⟩

set_option maxHeartbeats 4000000 in
theorem joinLeft_flat (s o n k : Int) (a b l : Tr) (qs qo qn qk : Int) (m : Tr) (la ra : Option Addr) (w : World) (hf : Hid (fineL (l.list ++ ⟨s, o, n, k⟩ :: (a.list ++ ⟨qs, qo, qn, qk⟩ :: b.list)))) (hne : ((l.bh : Int) == (((Tr.mk (some (false, a, ⟨qs, qo, qn, qk⟩, b)))).bh : Int)) = false) (hmr : m.red = false)
    (hm : Hid (m.list = l.list ++ ⟨s, o, n, k⟩ :: a.list)) (hl : Hid (At w l la)) (hr : Hid (At w ((Tr.mk (some (false, a, ⟨qs, qo, qn, qk⟩, b)))) ra))
    (IH : Hid (∀ w aa, At w l la → At w a aa → Calls Try.prog 94 #[.pointer la, .agg #[.int .i64 s, .int .i64 o, .int .i64 n, .int .i64 k], .pointer aa] w fun e w' => Gave w m e w')) :
    Calls Try.prog 94 #[.pointer la, .agg #[.int .i64 s, .int .i64 o, .int .i64 n, .int .i64 k], .pointer ra] w fun e w' => Gave w ((Tr.mk (some (false, m, ⟨qs, qo, qn, qk⟩, b)))) e w' := by
  obtain ⟨bl, aa, ba, rfl, hn, ha, hb⟩ := hr.out
  have HA : Hid (At w a aa) := ha
  have HB : Hid (At w b ba) := hb
  have HN : Hid (w.heap[bl]? = some (nodeObj false a ⟨qs, qo, qn, qk⟩ b aa ba)) := hn
  have hlt := (ncells hn).lt
  have c10 := s10 hn
  clear hn ha hb
  go_enter Try.func94, Try.ntmps94
  go_wp2_with (first | (go_at_call 76; refine (isRed_any _ _ _ (hr.out.alloc _)).mono ?_; rintro e w' ⟨rfl, rfl⟩; rw [show ((Tr.mk (some (false, a, ⟨qs, qo, qn, qk⟩, b)))).red = false from rfl])
                     | (go_at_call_of 90 (Value.pointer la); refine (black_any l _ _ (hl.out.alloc _)).mono ?_; rintro e w' ⟨rfl, rfl⟩)
                     | (go_at_call 90; refine (black_any _ _ _ (hr.out.alloc _)).mono ?_; rintro e w' ⟨rfl, rfl⟩))
  go_region_held3 (fun w' => w'.cell? ⟨w.heap.size, 0, none⟩ = some (.int .i64 s) ∧ w'.cell? ⟨w.heap.size, 1, none⟩ = some (.int .i64 o) ∧ w'.cell? ⟨w.heap.size, 2, none⟩ = some (.int .i64 n) ∧ w'.cell? ⟨w.heap.size, 3, none⟩ = some (.int .i64 k) ∧ w'.cell? ⟨bl, 10, none⟩ = some (.pointer aa)) (first | assumption | simp [*, go_sem])
    (first | (go_at_call 94; refine (IH.out _ aa (hl.out.alloc _).drew (HA.out.alloc _).drew).mono ?_; rintro e w9 ⟨ma, rfl, hat9, hb9⟩; have k9 := s5 c10 hb9 hlt))
  have L9 := bA (bD hb9)
  have HM : Hid (At w9 m ma) := hat9
  have hr9 : Hid (At w9 ((Tr.mk (some (false, a, ⟨qs, qo, qn, qk⟩, b)))) (some ⟨bl, 0, none⟩)) := hr.out.keep L9
  have HB9 : Hid (At w9 b ba) := HB.out.keep L9
  have HN9 : Hid (w9.heap[bl]? = some (nodeObj false a ⟨qs, qo, qn, qk⟩ b aa ba)) := nkeep HN.out L9
  obtain ⟨d0, d1, d2, d3, d10, d11⟩ := s7 HN9.out
  clear k9 hat9 hb9 hl HA HB HN hr c10 hlt IH
  go_wp2_with (first | (go_at_call_of 76 (Value.pointer ma); refine (isRed_any _ _ _ HM).mono ?_; rintro e w' ⟨rfl, rfl⟩; rw [hmr])
                     | (go_at_call 76; refine (isRed_any _ _ _ hr9).mono ?_; rintro e w' ⟨rfl, rfl⟩; rw [show ((Tr.mk (some (false, a, ⟨qs, qo, qn, qk⟩, b)))).red = false from rfl]))
  go_region_held3 (fun w' => w'.cell? ⟨bl, 0, none⟩ = some (.int .i64 qs) ∧ w'.cell? ⟨bl, 1, none⟩ = some (.int .i64 qo) ∧ w'.cell? ⟨bl, 2, none⟩ = some (.int .i64 qn) ∧ w'.cell? ⟨bl, 3, none⟩ = some (.int .i64 qk) ∧ w'.cell? ⟨bl, 10, none⟩ = some (.pointer aa) ∧ w'.cell? ⟨bl, 11, none⟩ = some (.pointer ba)) (first | assumption | simp [*, go_sem])
    (first | (go_at_call 76; refine (isRed_any _ _ _ hr9.out.drew).mono ?_; rintro e w' ⟨rfl, rfl⟩; rw [show ((Tr.mk (some (false, a, ⟨qs, qo, qn, qk⟩, b)))).red = false from rfl])
           | (go_at_call 91; refine (make_any false m qs qo qn qk b ma ba _ (hf.out.of (by simp only [Tr.list] at *; rw [hm.out]; simp)) HM.out.drew HB9.out.drew).mono ?_; rintro e w8 ⟨b8, rfl, hat8, hb8⟩; have k8 := s7 (nkeep HN9.out (bD hb8))))
  go_wp2
  go_ret
  exact ⟨_, rfl, hat8, L9.trans ((bD hb8).mono L9.size)⟩
end Go.Proofs.Ytpifjghhlcjedaa
