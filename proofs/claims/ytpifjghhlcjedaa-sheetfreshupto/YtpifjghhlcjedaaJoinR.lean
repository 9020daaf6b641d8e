/- The contract of joinRight: a piece and a tree put down the right edge of another. -/
import Derived.Test.YtpifjghhlcjedaaBlack
namespace Go.Proofs.Ytpifjghhlcjedaa
open Go.RowKit

/-- pieces that are fit, and not too many -/
def fineL (L : List Pc) : Prop := (∀ p ∈ L, p.fit) ∧ L.length ≤ 1048576
theorem fineL.sub {L M : List Pc} (h : fineL L) (hs : M.Sublist L) : fineL M := ⟨fun p hp => h.1 p (hs.subset hp), Nat.le_trans hs.length_le h.2⟩
theorem fineL.of {t : Tr} {L : List Pc} (h : fineL L) (e : t.list = L) : t.fine := (Tr.fine_list t).2 (by rw [e]; exact h)
theorem fineL.tree {t : Tr} {L : List Pc} (h : fineL L) (hs : t.list.Sublist L) : t.fine := (Tr.fine_list t).2 (h.sub hs)

theorem s11 {w : World} {b : Nat} {c : Bool} {l : Tr} {p : Pc} {r : Tr} {la ra : Option Addr} (h : w.heap[b]? = some (nodeObj c l p r la ra)) (x : Obj) :
    (w.alloc x).cell? ⟨b, 11, none⟩ = some (.pointer ra) := (ncells (nkeep h (bAlloc (Below.refl _ _) x))).c11
theorem s10 {w : World} {b : Nat} {c : Bool} {l : Tr} {p : Pc} {r : Tr} {la ra : Option Addr} (h : w.heap[b]? = some (nodeObj c l p r la ra)) (x : Obj) :
    (w.alloc x).cell? ⟨b, 10, none⟩ = some (.pointer la) := (ncells (nkeep h (bAlloc (Below.refl _ _) x))).c10

/-- the box of a piece, and a pointer of an old node -/
theorem s5 {w w' : World} {b i : Nat} {s o n k : Int} {q : Option Addr} (h : ∀ x, (w.alloc x).cell? ⟨b, i, none⟩ = some (.pointer q)) (hb : Below ((w.alloc (.cells #[.int .i64 s, .int .i64 o, .int .i64 n, .int .i64 k] 32)).drew).heap.size ((w.alloc (.cells #[.int .i64 s, .int .i64 o, .int .i64 n, .int .i64 k] 32)).drew) w') (hlt : b < w.heap.size) :
    w'.cell? ⟨w.heap.size, 0, none⟩ = some (.int .i64 s) ∧ w'.cell? ⟨w.heap.size, 1, none⟩ = some (.int .i64 o) ∧ w'.cell? ⟨w.heap.size, 2, none⟩ = some (.int .i64 n) ∧ w'.cell? ⟨w.heap.size, 3, none⟩ = some (.int .i64 k) ∧ w'.cell? ⟨b, i, none⟩ = some (.pointer q) := by
  have hb := bD hb
  refine ⟨?_, ?_, ?_, ?_, ?_⟩
  · rw [hb.cell (by simp)]; simp
  · rw [hb.cell (by simp)]; simp
  · rw [hb.cell (by simp)]; simp
  · rw [hb.cell (by simp)]; simp
  · rw [hb.cell (by simp; omega)]; exact h _

set_option maxHeartbeats 4000000 in
theorem joinRight_base (s o n k : Int) (l r : Tr) (la ra : Option Addr) (w : World) (hf : Hid (fineL (l.list ++ ⟨s, o, n, k⟩ :: r.list))) (hred : l.red = false) (hbh : l.bh = r.bh) (hl : Hid (At w l la)) (hr : Hid (At w r ra)) :
    Calls Try.prog 92 #[.pointer la, .agg #[.int .i64 s, .int .i64 o, .int .i64 n, .int .i64 k], .pointer ra] w fun e w' => Gave w ((Tr.mk (some (true, l, ⟨s, o, n, k⟩, r)))) e w' := by
  go_enter Try.func92, Try.ntmps92
  go_wp2_with (first | (go_at_call 76; refine (isRed_any l _ _ (hl.out.alloc _)).mono ?_; rintro e w' ⟨rfl, rfl⟩; rw [hred])
                     | (go_at_call_of 90 (Value.pointer la); refine (black_any l _ _ (hl.out.alloc _)).mono ?_; rintro e w' ⟨rfl, rfl⟩; rw [hbh])
                     | (go_at_call_of 90 (Value.pointer ra); refine (black_any r _ _ (hr.out.alloc _)).mono ?_; rintro e w' ⟨rfl, rfl⟩)
                     | (go_at_call 91; refine (make_any true l s o n k r la ra _ (hf.out.of rfl) (hl.out.alloc _) (hr.out.alloc _)).mono ?_; rintro e w9 ⟨b9, rfl, hat9, hb9⟩))
  go_ret
  exact ⟨_, rfl, hat9, bA hb9⟩

set_option maxHeartbeats 4000000 in
theorem joinRight_red (s o n k : Int) (a b r : Tr) (qs qo qn qk : Int) (m : Tr) (la ra : Option Addr) (w : World) (hf : Hid (fineL ((a.list ++ ⟨qs, qo, qn, qk⟩ :: b.list) ++ ⟨s, o, n, k⟩ :: r.list))) 
    (hm : Hid (m.list = b.list ++ ⟨s, o, n, k⟩ :: r.list)) (hl : Hid (At w ((Tr.mk (some (true, a, ⟨qs, qo, qn, qk⟩, b)))) la)) (hr : Hid (At w r ra))
    (IH : Hid (∀ w ba, At w b ba → At w r ra → Calls Try.prog 92 #[.pointer ba, .agg #[.int .i64 s, .int .i64 o, .int .i64 n, .int .i64 k], .pointer ra] w fun e w' => Gave w m e w')) :
    Calls Try.prog 92 #[.pointer la, .agg #[.int .i64 s, .int .i64 o, .int .i64 n, .int .i64 k], .pointer ra] w fun e w' => Gave w ((Tr.mk (some (true, a, ⟨qs, qo, qn, qk⟩, m)))) e w' := by
  obtain ⟨bl, aa, ba, rfl, hn, ha, hb⟩ := hl.out
  have HA : Hid (At w a aa) := ha
  have HB : Hid (At w b ba) := hb
  have HN : Hid (w.heap[bl]? = some (nodeObj true a ⟨qs, qo, qn, qk⟩ b aa ba)) := hn
  have hlt := (ncells hn).lt
  have c11 := s11 hn
  clear hn ha hb
  go_enter Try.func92, Try.ntmps92
  go_wp2_with (first | (go_at_call 76; refine (isRed_any _ _ _ (hl.out.alloc _)).mono ?_; rintro e w' ⟨rfl, rfl⟩; rw [show ((Tr.mk (some (true, a, ⟨qs, qo, qn, qk⟩, b)))).red = true from rfl])
                     | (go_at_call_of 90 (Value.pointer ra); refine (black_any r _ _ (hr.out.alloc _)).mono ?_; rintro e w' ⟨rfl, rfl⟩)
                     | (go_at_call 90; refine (black_any _ _ _ (hl.out.alloc _)).mono ?_; rintro e w' ⟨rfl, rfl⟩))
  go_region_held3 (fun w' => w'.cell? ⟨w.heap.size, 0, none⟩ = some (.int .i64 s) ∧ w'.cell? ⟨w.heap.size, 1, none⟩ = some (.int .i64 o) ∧ w'.cell? ⟨w.heap.size, 2, none⟩ = some (.int .i64 n) ∧ w'.cell? ⟨w.heap.size, 3, none⟩ = some (.int .i64 k) ∧ w'.cell? ⟨bl, 11, none⟩ = some (.pointer ba)) (first | assumption | simp [*, go_sem])
    (first | (go_at_call 92; refine (IH.out _ ba (HB.out.alloc _).drew (hr.out.alloc _).drew).mono ?_; rintro e w9 ⟨ma, rfl, hat9, hb9⟩; have k9 := s5 c11 hb9 hlt))
  have L9 := bA (bD hb9)
  have HM : Hid (At w9 m ma) := hat9
  have hl9 : Hid (At w9 ((Tr.mk (some (true, a, ⟨qs, qo, qn, qk⟩, b)))) (some ⟨bl, 0, none⟩)) := hl.out.keep L9
  have HA9 : Hid (At w9 a aa) := HA.out.keep L9
  have HN9 : Hid (w9.heap[bl]? = some (nodeObj true a ⟨qs, qo, qn, qk⟩ b aa ba)) := nkeep HN.out L9
  obtain ⟨d0, d1, d2, d3, d10, d11⟩ := s7 HN9.out
  clear k9 hat9 hb9 hl HA HB HN hr c11 hlt IH
  go_wp2_with (first | (go_at_call_of 76 (Value.pointer ma); refine (isRed_any _ _ _ HM).mono ?_; rintro e w' ⟨rfl, rfl⟩)
                     | (go_at_call 76; refine (isRed_any _ _ _ hl9).mono ?_; rintro e w' ⟨rfl, rfl⟩; rw [show ((Tr.mk (some (true, a, ⟨qs, qo, qn, qk⟩, b)))).red = true from rfl]))
  go_region_held3 (fun w' => w'.cell? ⟨bl, 0, none⟩ = some (.int .i64 qs) ∧ w'.cell? ⟨bl, 1, none⟩ = some (.int .i64 qo) ∧ w'.cell? ⟨bl, 2, none⟩ = some (.int .i64 qn) ∧ w'.cell? ⟨bl, 3, none⟩ = some (.int .i64 qk) ∧ w'.cell? ⟨bl, 10, none⟩ = some (.pointer aa) ∧ w'.cell? ⟨bl, 11, none⟩ = some (.pointer ba)) (first | assumption | simp [*, go_sem])
    (first | (go_at_call 76; refine (isRed_any _ _ _ hl9.out.drew).mono ?_; rintro e w' ⟨rfl, rfl⟩; rw [show ((Tr.mk (some (true, a, ⟨qs, qo, qn, qk⟩, b)))).red = true from rfl])
           | (go_at_call 91; refine (make_any true a qs qo qn qk m aa ma _ (hf.out.of (by simp only [Tr.list] at *; rw [hm.out]; simp)) HA9.out.drew HM.out.drew).mono ?_; rintro e w8 ⟨b8, rfl, hat8, hb8⟩; have k8 := s7 (nkeep HN9.out (bD hb8))))
  go_wp2
  go_ret
  exact ⟨_, rfl, hat8, L9.trans ((bD hb8).mono L9.size)⟩

set_option maxHeartbeats 4000000 in
theorem joinRight_flat (s o n k : Int) (a b r : Tr) (qs qo qn qk : Int) (m : Tr) (la ra : Option Addr) (w : World) (hf : Hid (fineL ((a.list ++ ⟨qs, qo, qn, qk⟩ :: b.list) ++ ⟨s, o, n, k⟩ :: r.list))) (hne : ((((Tr.mk (some (false, a, ⟨qs, qo, qn, qk⟩, b)))).bh : Int) == (r.bh : Int)) = false) (hmr : m.red = false)
    (hm : Hid (m.list = b.list ++ ⟨s, o, n, k⟩ :: r.list)) (hl : Hid (At w ((Tr.mk (some (false, a, ⟨qs, qo, qn, qk⟩, b)))) la)) (hr : Hid (At w r ra))
    (IH : Hid (∀ w ba, At w b ba → At w r ra → Calls Try.prog 92 #[.pointer ba, .agg #[.int .i64 s, .int .i64 o, .int .i64 n, .int .i64 k], .pointer ra] w fun e w' => Gave w m e w')) :
    Calls Try.prog 92 #[.pointer la, .agg #[.int .i64 s, .int .i64 o, .int .i64 n, .int .i64 k], .pointer ra] w fun e w' => Gave w ((Tr.mk (some (false, a, ⟨qs, qo, qn, qk⟩, m)))) e w' := by
  obtain ⟨bl, aa, ba, rfl, hn, ha, hb⟩ := hl.out
  have HA : Hid (At w a aa) := ha
  have HB : Hid (At w b ba) := hb
  have HN : Hid (w.heap[bl]? = some (nodeObj false a ⟨qs, qo, qn, qk⟩ b aa ba)) := hn
  have hlt := (ncells hn).lt
  have c11 := s11 hn
  clear hn ha hb
  go_enter Try.func92, Try.ntmps92
  go_wp2_with (first | (go_at_call 76; refine (isRed_any _ _ _ (hl.out.alloc _)).mono ?_; rintro e w' ⟨rfl, rfl⟩; rw [show ((Tr.mk (some (false, a, ⟨qs, qo, qn, qk⟩, b)))).red = false from rfl])
                     | (go_at_call_of 90 (Value.pointer ra); refine (black_any r _ _ (hr.out.alloc _)).mono ?_; rintro e w' ⟨rfl, rfl⟩)
                     | (go_at_call 90; refine (black_any _ _ _ (hl.out.alloc _)).mono ?_; rintro e w' ⟨rfl, rfl⟩))
  go_region_held3 (fun w' => w'.cell? ⟨w.heap.size, 0, none⟩ = some (.int .i64 s) ∧ w'.cell? ⟨w.heap.size, 1, none⟩ = some (.int .i64 o) ∧ w'.cell? ⟨w.heap.size, 2, none⟩ = some (.int .i64 n) ∧ w'.cell? ⟨w.heap.size, 3, none⟩ = some (.int .i64 k) ∧ w'.cell? ⟨bl, 11, none⟩ = some (.pointer ba)) (first | assumption | simp [*, go_sem])
    (first | (go_at_call 92; refine (IH.out _ ba (HB.out.alloc _).drew (hr.out.alloc _).drew).mono ?_; rintro e w9 ⟨ma, rfl, hat9, hb9⟩; have k9 := s5 c11 hb9 hlt))
  have L9 := bA (bD hb9)
  have HM : Hid (At w9 m ma) := hat9
  have hl9 : Hid (At w9 ((Tr.mk (some (false, a, ⟨qs, qo, qn, qk⟩, b)))) (some ⟨bl, 0, none⟩)) := hl.out.keep L9
  have HA9 : Hid (At w9 a aa) := HA.out.keep L9
  have HN9 : Hid (w9.heap[bl]? = some (nodeObj false a ⟨qs, qo, qn, qk⟩ b aa ba)) := nkeep HN.out L9
  obtain ⟨d0, d1, d2, d3, d10, d11⟩ := s7 HN9.out
  clear k9 hat9 hb9 hl HA HB HN hr c11 hlt IH
  go_wp2_with (first | (go_at_call_of 76 (Value.pointer ma); refine (isRed_any _ _ _ HM).mono ?_; rintro e w' ⟨rfl, rfl⟩; rw [hmr])
                     | (go_at_call 76; refine (isRed_any _ _ _ hl9).mono ?_; rintro e w' ⟨rfl, rfl⟩; rw [show ((Tr.mk (some (false, a, ⟨qs, qo, qn, qk⟩, b)))).red = false from rfl]))
  go_region_held3 (fun w' => w'.cell? ⟨bl, 0, none⟩ = some (.int .i64 qs) ∧ w'.cell? ⟨bl, 1, none⟩ = some (.int .i64 qo) ∧ w'.cell? ⟨bl, 2, none⟩ = some (.int .i64 qn) ∧ w'.cell? ⟨bl, 3, none⟩ = some (.int .i64 qk) ∧ w'.cell? ⟨bl, 10, none⟩ = some (.pointer aa) ∧ w'.cell? ⟨bl, 11, none⟩ = some (.pointer ba)) (first | assumption | simp [*, go_sem])
    (first | (go_at_call 76; refine (isRed_any _ _ _ hl9.out.drew).mono ?_; rintro e w' ⟨rfl, rfl⟩; rw [show ((Tr.mk (some (false, a, ⟨qs, qo, qn, qk⟩, b)))).red = false from rfl])
           | (go_at_call 91; refine (make_any false a qs qo qn qk m aa ma _ (hf.out.of (by simp only [Tr.list] at *; rw [hm.out]; simp)) HA9.out.drew HM.out.drew).mono ?_; rintro e w8 ⟨b8, rfl, hat8, hb8⟩; have k8 := s7 (nkeep HN9.out (bD hb8))))
  go_wp2
  go_ret
  exact ⟨_, rfl, hat8, L9.trans ((bD hb8).mono L9.size)⟩
end Go.Proofs.Ytpifjghhlcjedaa
