/- The contract of blackened: the tree with its root made black. -/
import Derived.Test.YtmhpeppbhjpkiaaGreatPm01
namespace Go.Proofs.YtmhpeppbhjpkiaaGreat
open Go.RowKit

/-- The call gave a pointer to the tree t; nothing that was there has turned. -/
def Gave (w : World) (t : Tr) (e : Ending) (w' : World) : Prop := ∃ a, e = .returned (.pointer a) ∧ At w' t a ∧ Below w.heap.size w w'

theorem nkeep {w w' : World} {b : Nat} {x : Obj} (h : w.heap[b]? = some x) (hb : Below w.heap.size w w') : w'.heap[b]? = some x := by
  rw [hb.block b (Array.getElem?_eq_some_iff.1 h).1]; exact h

/-- the cells of a node that regions read: piece, colour, kids -/
theorem s7 {w : World} {b : Nat} {c : Bool} {l : Tr} {s o n k : Int} {r : Tr} {la ra : Option Addr} (h : w.heap[b]? = some (nodeObj c l ⟨s, o, n, k⟩ r la ra)) :
    w.cell? ⟨b, 0, none⟩ = some (.int .i64 s) ∧ w.cell? ⟨b, 1, none⟩ = some (.int .i64 o) ∧ w.cell? ⟨b, 2, none⟩ = some (.int .i64 n) ∧ w.cell? ⟨b, 3, none⟩ = some (.int .i64 k) ∧ w.cell? ⟨b, 10, none⟩ = some (.pointer la) ∧ w.cell? ⟨b, 11, none⟩ = some (.pointer ra) := by
  have q := ncells h
  exact ⟨q.c0, q.c1, q.c2, q.c3, q.c10, q.c11⟩

theorem bD {w w' : World} (h : Below w.drew.heap.size w.drew w') : Below w.heap.size w w' := Below.trans (Below.refl w.heap.size w).drew h
theorem bA {w w' : World} {x : Obj} (h : Below (w.alloc x).heap.size (w.alloc x) w') : Below w.heap.size w w' := Below.trans (bAlloc (Below.refl w.heap.size w) x) (h.mono (by simp))

theorem fine_color {c c' : Bool} {l : Tr} {p : Pc} {r : Tr} (h : ((Tr.mk (some (c, l, p, r)))).fine) : ((Tr.mk (some (c', l, p, r)))).fine := h

set_option maxHeartbeats 4000000 in
theorem blackened_any (t : Tr) (a : Option Addr) (w : World) (hf : Hid t.fine) (h : Hid (At w t a)) :
    Calls Tryz.prog 92 #[.pointer a] w fun e w' => Gave w t.blk e w' := by
  match t, hf, h with
  | (Tr.mk none), hf, h =>
    have e := h.out; simp only [At] at e; subst e
    go_enter Tryz.func92, Tryz.ntmps92
    go_wp2_with (go_at_call 121; refine (isRed_any (Tr.mk none) _ _ h).mono ?_; rintro e w' ⟨rfl, rfl⟩)
    go_ret
    exact ⟨_, rfl, rfl, Below.refl _ _⟩
  | (Tr.mk (some (false, l, ⟨s, o, n, k⟩, r))), hf, h =>
    go_enter Tryz.func92, Tryz.ntmps92
    go_wp2_with (go_at_call 121; refine (isRed_any _ _ _ h).mono ?_; rintro e w' ⟨rfl, rfl⟩; rw [show ((Tr.mk (some (false, l, ⟨s, o, n, k⟩, r)))).red = false from rfl])
    go_ret
    exact ⟨_, rfl, h.out, Below.refl _ _⟩
  | (Tr.mk (some (true, l, ⟨s, o, n, k⟩, r))), hf, h =>
    obtain ⟨b, la, ra, rfl, hn, hl, hr⟩ := h.out
    have HL : Hid (At w l la) := hl
    have HR : Hid (At w r ra) := hr
    have HN : Hid (w.heap[b]? = some (nodeObj true l ⟨s, o, n, k⟩ r la ra)) := hn
    obtain ⟨c0, c1, c2, c3, c10, c11⟩ := s7 hn
    clear hn hl hr
    go_enter Tryz.func92, Tryz.ntmps92
    go_wp2_with (go_at_call 121; refine (isRed_any _ _ _ h).mono ?_; rintro e w' ⟨rfl, rfl⟩; rw [show ((Tr.mk (some (true, l, ⟨s, o, n, k⟩, r)))).red = true from rfl])
    go_region_held3 (fun w' => w'.cell? ⟨b, 0, none⟩ = some (.int .i64 s) ∧ w'.cell? ⟨b, 1, none⟩ = some (.int .i64 o) ∧ w'.cell? ⟨b, 2, none⟩ = some (.int .i64 n) ∧ w'.cell? ⟨b, 3, none⟩ = some (.int .i64 k) ∧ w'.cell? ⟨b, 10, none⟩ = some (.pointer la) ∧ w'.cell? ⟨b, 11, none⟩ = some (.pointer ra)) (first | assumption | simp [*, go_sem])
      (first | (go_at_call 90; refine (make_any false l s o n k r la ra _ (fine_color hf.out) HL.out.drew HR.out.drew).mono ?_; rintro e w9 ⟨b9, rfl, hat9, hb9⟩; have k9 := s7 (nkeep HN.out (bD hb9))))
    go_wp2
    go_ret
    exact ⟨_, rfl, hat9, bD hb9⟩
end Go.Proofs.YtmhpeppbhjpkiaaGreat

/- The contract of joinRight: a piece and a tree put down the right edge of another. -/
namespace Go.Proofs.YtmhpeppbhjpkiaaGreat
open Go.RowKit

/-- pieces that are fit, and not too many -/
def fineL (L : List Pc) : Prop := (∀ p ∈ L, p.fit) ∧ L.length ≤ 1048576
theorem fineL.sub {L M : List Pc} (h : fineL L) (hs : M.Sublist L) : fineL M := ⟨fun p hp => h.1 p (hs.subset hp), Nat.le_trans hs.length_le h.2⟩
theorem fineL.of {t : Tr} {L : List Pc} (h : fineL L) (e : t.list = L) : t.fine := (Tr.fine_list t).2 (by rw [e]; exact h)
theorem fineL.tree {t : Tr} {L : List Pc} (h : fineL L) (hs : t.list.Sublist L) : t.fine := (Tr.fine_list t).2 (h.sub hs)

theorem s11 {w : World} {b : Nat} {c : Bool} {l : Tr} {p : Pc} {r : Tr} {la ra : Option Addr} (h : w.heap[b]? = some (nodeObj c l p r la ra)) (x : Obj) :
    (w.alloc x).cell? ⟨b, 11, none⟩ = some (.pointer ra) := (ncells (nkeep h (bAlloc (Below.refl _ _) x))).c11
theorem s10 {w : World} {b : Nat} {c : Bool} {l : Tr} {p : Pc} {r : Tr} {la ra : Option Addr} (h : w.heap[b]? = some (nodeObj c l p r la ra)) (x : Obj) :
    (w.alloc x).cell? ⟨b, 10, none⟩ = some (.pointer la) := (ncells (nkeep h (bAlloc (Below.refl _ _) x))).c10

/-- the box of a piece, and a pointer of an old node -/
theorem s5 {w w' : World} {b i : Nat} {s o n k : Int} {q : Option Addr} (h : ∀ x, (w.alloc x).cell? ⟨b, i, none⟩ = some (.pointer q)) (hb : Below ((w.alloc (.cells #[.int .i64 s, .int .i64 o, .int .i64 n, .int .i64 k] 59)).drew).heap.size ((w.alloc (.cells #[.int .i64 s, .int .i64 o, .int .i64 n, .int .i64 k] 59)).drew) w') (hlt : b < w.heap.size) :
    w'.cell? ⟨w.heap.size, 0, none⟩ = some (.int .i64 s) ∧ w'.cell? ⟨w.heap.size, 1, none⟩ = some (.int .i64 o) ∧ w'.cell? ⟨w.heap.size, 2, none⟩ = some (.int .i64 n) ∧ w'.cell? ⟨w.heap.size, 3, none⟩ = some (.int .i64 k) ∧ w'.cell? ⟨b, i, none⟩ = some (.pointer q) := by
  have hb := bD hb
  refine ⟨?_, ?_, ?_, ?_, ?_⟩
  · rw [hb.cell (by simp)]; simp
  · rw [hb.cell (by simp)]; simp
  · rw [hb.cell (by simp)]; simp
  · rw [hb.cell (by simp)]; simp
  · rw [hb.cell (by simp; omega)]; exact h _

set_option maxHeartbeats 4000000 in
theorem joinRight_base (s o n k : Int) (l r : Tr) (la ra : Option Addr) (w : World) (hf : Hid (fineL (l.list ++ ⟨s, o, n, k⟩ :: r.list))) (hred : l.red = false) (hbh : l.bh = r.bh) (hl : Hid (At w l la)) (hr : Hid (At w r ra)) :
    Calls Tryz.prog 91 #[.pointer la, .agg #[.int .i64 s, .int .i64 o, .int .i64 n, .int .i64 k], .pointer ra] w fun e w' => Gave w ((Tr.mk (some (true, l, ⟨s, o, n, k⟩, r)))) e w' := by
  go_enter Tryz.func91, Tryz.ntmps91
  go_wp2_with (first | (go_at_call 121; refine (isRed_any l _ _ (hl.out.alloc _)).mono ?_; rintro e w' ⟨rfl, rfl⟩; rw [hred])
                     | (go_at_call_of 89 (Value.pointer la); refine (black_any l _ _ (hl.out.alloc _)).mono ?_; rintro e w' ⟨rfl, rfl⟩; rw [hbh])
                     | (go_at_call_of 89 (Value.pointer ra); refine (black_any r _ _ (hr.out.alloc _)).mono ?_; rintro e w' ⟨rfl, rfl⟩)
                     | (go_at_call 90; refine (make_any true l s o n k r la ra _ (hf.out.of rfl) (hl.out.alloc _) (hr.out.alloc _)).mono ?_; rintro e w9 ⟨b9, rfl, hat9, hb9⟩))
  go_ret
  exact ⟨_, rfl, hat9, bA hb9⟩

set_option maxHeartbeats 4000000 in
theorem joinRight_red (s o n k : Int) (a b r : Tr) (qs qo qn qk : Int) (m : Tr) (la ra : Option Addr) (w : World) (hf : Hid (fineL ((a.list ++ ⟨qs, qo, qn, qk⟩ :: b.list) ++ ⟨s, o, n, k⟩ :: r.list))) 
    (hm : Hid (m.list = b.list ++ ⟨s, o, n, k⟩ :: r.list)) (hl : Hid (At w ((Tr.mk (some (true, a, ⟨qs, qo, qn, qk⟩, b)))) la)) (hr : Hid (At w r ra))
    (IH : Hid (∀ w ba, At w b ba → At w r ra → Calls Tryz.prog 91 #[.pointer ba, .agg #[.int .i64 s, .int .i64 o, .int .i64 n, .int .i64 k], .pointer ra] w fun e w' => Gave w m e w')) :
    Calls Tryz.prog 91 #[.pointer la, .agg #[.int .i64 s, .int .i64 o, .int .i64 n, .int .i64 k], .pointer ra] w fun e w' => Gave w ((Tr.mk (some (true, a, ⟨qs, qo, qn, qk⟩, m)))) e w' := by
  obtain ⟨bl, aa, ba, rfl, hn, ha, hb⟩ := hl.out
  have HA : Hid (At w a aa) := ha
  have HB : Hid (At w b ba) := hb
  have HN : Hid (w.heap[bl]? = some (nodeObj true a ⟨qs, qo, qn, qk⟩ b aa ba)) := hn
  have hlt := (ncells hn).lt
  have c11 := s11 hn
  clear hn ha hb
  go_enter Tryz.func91, Tryz.ntmps91
  go_wp2_with (first | (go_at_call 121; refine (isRed_any _ _ _ (hl.out.alloc _)).mono ?_; rintro e w' ⟨rfl, rfl⟩; rw [show ((Tr.mk (some (true, a, ⟨qs, qo, qn, qk⟩, b)))).red = true from rfl])
                     | (go_at_call_of 89 (Value.pointer ra); refine (black_any r _ _ (hr.out.alloc _)).mono ?_; rintro e w' ⟨rfl, rfl⟩)
                     | (go_at_call 89; refine (black_any _ _ _ (hl.out.alloc _)).mono ?_; rintro e w' ⟨rfl, rfl⟩))
  go_region_held3 (fun w' => w'.cell? ⟨w.heap.size, 0, none⟩ = some (.int .i64 s) ∧ w'.cell? ⟨w.heap.size, 1, none⟩ = some (.int .i64 o) ∧ w'.cell? ⟨w.heap.size, 2, none⟩ = some (.int .i64 n) ∧ w'.cell? ⟨w.heap.size, 3, none⟩ = some (.int .i64 k) ∧ w'.cell? ⟨bl, 11, none⟩ = some (.pointer ba)) (first | assumption | simp [*, go_sem])
    (first | (go_at_call 91; refine (IH.out _ ba (HB.out.alloc _).drew (hr.out.alloc _).drew).mono ?_; rintro e w9 ⟨ma, rfl, hat9, hb9⟩; have k9 := s5 c11 hb9 hlt))
  have L9 := bA (bD hb9)
  have HM : Hid (At w9 m ma) := hat9
  have hl9 : Hid (At w9 ((Tr.mk (some (true, a, ⟨qs, qo, qn, qk⟩, b)))) (some ⟨bl, 0, none⟩)) := hl.out.keep L9
  have HA9 : Hid (At w9 a aa) := HA.out.keep L9
  have HN9 : Hid (w9.heap[bl]? = some (nodeObj true a ⟨qs, qo, qn, qk⟩ b aa ba)) := nkeep HN.out L9
  obtain ⟨d0, d1, d2, d3, d10, d11⟩ := s7 HN9.out
  clear k9 hat9 hb9 hl HA HB HN hr c11 hlt IH
  go_wp2_with (first | (go_at_call_of 121 (Value.pointer ma); refine (isRed_any _ _ _ HM).mono ?_; rintro e w' ⟨rfl, rfl⟩)
                     | (go_at_call 121; refine (isRed_any _ _ _ hl9).mono ?_; rintro e w' ⟨rfl, rfl⟩; rw [show ((Tr.mk (some (true, a, ⟨qs, qo, qn, qk⟩, b)))).red = true from rfl]))
  go_region_held3 (fun w' => w'.cell? ⟨bl, 0, none⟩ = some (.int .i64 qs) ∧ w'.cell? ⟨bl, 1, none⟩ = some (.int .i64 qo) ∧ w'.cell? ⟨bl, 2, none⟩ = some (.int .i64 qn) ∧ w'.cell? ⟨bl, 3, none⟩ = some (.int .i64 qk) ∧ w'.cell? ⟨bl, 10, none⟩ = some (.pointer aa) ∧ w'.cell? ⟨bl, 11, none⟩ = some (.pointer ba)) (first | assumption | simp [*, go_sem])
    (first | (go_at_call 121; refine (isRed_any _ _ _ hl9.out.drew).mono ?_; rintro e w' ⟨rfl, rfl⟩; rw [show ((Tr.mk (some (true, a, ⟨qs, qo, qn, qk⟩, b)))).red = true from rfl])
           | (go_at_call 90; refine (make_any true a qs qo qn qk m aa ma _ (hf.out.of (by simp only [Tr.list] at *; rw [hm.out]; simp)) HA9.out.drew HM.out.drew).mono ?_; rintro e w8 ⟨b8, rfl, hat8, hb8⟩; have k8 := s7 (nkeep HN9.out (bD hb8))))
  go_wp2
  go_ret
  exact ⟨_, rfl, hat8, L9.trans ((bD hb8).mono L9.size)⟩

set_option maxHeartbeats 4000000 in
theorem joinRight_flat (s o n k : Int) (a b r : Tr) (qs qo qn qk : Int) (m : Tr) (la ra : Option Addr) (w : World) (hf : Hid (fineL ((a.list ++ ⟨qs, qo, qn, qk⟩ :: b.list) ++ ⟨s, o, n, k⟩ :: r.list))) (hne : ((((Tr.mk (some (false, a, ⟨qs, qo, qn, qk⟩, b)))).bh : Int) == (r.bh : Int)) = false) (hmr : m.red = false)
    (hm : Hid (m.list = b.list ++ ⟨s, o, n, k⟩ :: r.list)) (hl : Hid (At w ((Tr.mk (some (false, a, ⟨qs, qo, qn, qk⟩, b)))) la)) (hr : Hid (At w r ra))
    (IH : Hid (∀ w ba, At w b ba → At w r ra → Calls Tryz.prog 91 #[.pointer ba, .agg #[.int .i64 s, .int .i64 o, .int .i64 n, .int .i64 k], .pointer ra] w fun e w' => Gave w m e w')) :
    Calls Tryz.prog 91 #[.pointer la, .agg #[.int .i64 s, .int .i64 o, .int .i64 n, .int .i64 k], .pointer ra] w fun e w' => Gave w ((Tr.mk (some (false, a, ⟨qs, qo, qn, qk⟩, m)))) e w' := by
  obtain ⟨bl, aa, ba, rfl, hn, ha, hb⟩ := hl.out
  have HA : Hid (At w a aa) := ha
  have HB : Hid (At w b ba) := hb
  have HN : Hid (w.heap[bl]? = some (nodeObj false a ⟨qs, qo, qn, qk⟩ b aa ba)) := hn
  have hlt := (ncells hn).lt
  have c11 := s11 hn
  clear hn ha hb
  go_enter Tryz.func91, Tryz.ntmps91
  go_wp2_with (first | (go_at_call 121; refine (isRed_any _ _ _ (hl.out.alloc _)).mono ?_; rintro e w' ⟨rfl, rfl⟩; rw [show ((Tr.mk (some (false, a, ⟨qs, qo, qn, qk⟩, b)))).red = false from rfl])
                     | (go_at_call_of 89 (Value.pointer ra); refine (black_any r _ _ (hr.out.alloc _)).mono ?_; rintro e w' ⟨rfl, rfl⟩)
                     | (go_at_call 89; refine (black_any _ _ _ (hl.out.alloc _)).mono ?_; rintro e w' ⟨rfl, rfl⟩))
  go_region_held3 (fun w' => w'.cell? ⟨w.heap.size, 0, none⟩ = some (.int .i64 s) ∧ w'.cell? ⟨w.heap.size, 1, none⟩ = some (.int .i64 o) ∧ w'.cell? ⟨w.heap.size, 2, none⟩ = some (.int .i64 n) ∧ w'.cell? ⟨w.heap.size, 3, none⟩ = some (.int .i64 k) ∧ w'.cell? ⟨bl, 11, none⟩ = some (.pointer ba)) (first | assumption | simp [*, go_sem])
    (first | (go_at_call 91; refine (IH.out _ ba (HB.out.alloc _).drew (hr.out.alloc _).drew).mono ?_; rintro e w9 ⟨ma, rfl, hat9, hb9⟩; have k9 := s5 c11 hb9 hlt))
  have L9 := bA (bD hb9)
  have HM : Hid (At w9 m ma) := hat9
  have hl9 : Hid (At w9 ((Tr.mk (some (false, a, ⟨qs, qo, qn, qk⟩, b)))) (some ⟨bl, 0, none⟩)) := hl.out.keep L9
  have HA9 : Hid (At w9 a aa) := HA.out.keep L9
  have HN9 : Hid (w9.heap[bl]? = some (nodeObj false a ⟨qs, qo, qn, qk⟩ b aa ba)) := nkeep HN.out L9
  obtain ⟨d0, d1, d2, d3, d10, d11⟩ := s7 HN9.out
  clear k9 hat9 hb9 hl HA HB HN hr c11 hlt IH
  go_wp2_with (first | (go_at_call_of 121 (Value.pointer ma); refine (isRed_any _ _ _ HM).mono ?_; rintro e w' ⟨rfl, rfl⟩; rw [hmr])
                     | (go_at_call 121; refine (isRed_any _ _ _ hl9).mono ?_; rintro e w' ⟨rfl, rfl⟩; rw [show ((Tr.mk (some (false, a, ⟨qs, qo, qn, qk⟩, b)))).red = false from rfl]))
  go_region_held3 (fun w' => w'.cell? ⟨bl, 0, none⟩ = some (.int .i64 qs) ∧ w'.cell? ⟨bl, 1, none⟩ = some (.int .i64 qo) ∧ w'.cell? ⟨bl, 2, none⟩ = some (.int .i64 qn) ∧ w'.cell? ⟨bl, 3, none⟩ = some (.int .i64 qk) ∧ w'.cell? ⟨bl, 10, none⟩ = some (.pointer aa) ∧ w'.cell? ⟨bl, 11, none⟩ = some (.pointer ba)) (first | assumption | simp [*, go_sem])
    (first | (go_at_call 121; refine (isRed_any _ _ _ hl9.out.drew).mono ?_; rintro e w' ⟨rfl, rfl⟩; rw [show ((Tr.mk (some (false, a, ⟨qs, qo, qn, qk⟩, b)))).red = false from rfl])
           | (go_at_call 90; refine (make_any false a qs qo qn qk m aa ma _ (hf.out.of (by simp only [Tr.list] at *; rw [hm.out]; simp)) HA9.out.drew HM.out.drew).mono ?_; rintro e w8 ⟨b8, rfl, hat8, hb8⟩; have k8 := s7 (nkeep HN9.out (bD hb8))))
  go_wp2
  go_ret
  exact ⟨_, rfl, hat8, L9.trans ((bD hb8).mono L9.size)⟩
end Go.Proofs.YtmhpeppbhjpkiaaGreat

/- The contract of joinRight, gone on with: two reds one below the other; the whole of it. -/
namespace Go.Proofs.YtmhpeppbhjpkiaaGreat
open Go.RowKit

theorem s7' {w : World} {b b' : Nat} {c c' : Bool} {l : Tr} {s o n k : Int} {r : Tr} {la ra : Option Addr} {l' : Tr} {p' : Pc} {r' : Tr} {la' ra' : Option Addr} (h : w.heap[b]? = some (nodeObj c l ⟨s, o, n, k⟩ r la ra)) (h' : w.heap[b']? = some (nodeObj c' l' p' r' la' ra')) :
    w.cell? ⟨b, 0, none⟩ = some (.int .i64 s) ∧ w.cell? ⟨b, 1, none⟩ = some (.int .i64 o) ∧ w.cell? ⟨b, 2, none⟩ = some (.int .i64 n) ∧ w.cell? ⟨b, 3, none⟩ = some (.int .i64 k) ∧ w.cell? ⟨b, 10, none⟩ = some (.pointer la) ∧ w.cell? ⟨b', 10, none⟩ = some (.pointer la') := by
  have q := ncells h
  exact ⟨q.c0, q.c1, q.c2, q.c3, q.c10, (ncells h').c10⟩

theorem list_turn {A X Y B R : List Pc} {q t p : Pc} (h : X ++ t :: Y = B ++ p :: R) : (A ++ q :: X) ++ t :: Y = (A ++ q :: B) ++ p :: R := by
  simp only [List.append_assoc, List.cons_append]; rw [h]

set_option maxHeartbeats 4000000 in
theorem joinRight_calm (s o n k : Int) (a b r : Tr) (qs qo qn qk : Int) (x y : Tr) (ts to tn tk : Int) (la ra : Option Addr) (w : World) (hf : Hid (fineL ((a.list ++ ⟨qs, qo, qn, qk⟩ :: b.list) ++ ⟨s, o, n, k⟩ :: r.list))) (hne : ((((Tr.mk (some (false, a, ⟨qs, qo, qn, qk⟩, b)))).bh : Int) == (r.bh : Int)) = false) (hyr : y.red = false)
    (hm : Hid (((Tr.mk (some (true, x, ⟨ts, to, tn, tk⟩, y)))).list = b.list ++ ⟨s, o, n, k⟩ :: r.list)) (hl : Hid (At w ((Tr.mk (some (false, a, ⟨qs, qo, qn, qk⟩, b)))) la)) (hr : Hid (At w r ra))
    (IH : Hid (∀ w ba, At w b ba → At w r ra → Calls Tryz.prog 91 #[.pointer ba, .agg #[.int .i64 s, .int .i64 o, .int .i64 n, .int .i64 k], .pointer ra] w fun e w' => Gave w ((Tr.mk (some (true, x, ⟨ts, to, tn, tk⟩, y)))) e w')) :
    Calls Tryz.prog 91 #[.pointer la, .agg #[.int .i64 s, .int .i64 o, .int .i64 n, .int .i64 k], .pointer ra] w fun e w' => Gave w ((Tr.mk (some (false, a, ⟨qs, qo, qn, qk⟩, ((Tr.mk (some (true, x, ⟨ts, to, tn, tk⟩, y)))))))) e w' := by
  obtain ⟨bl, aa, ba, rfl, hn, ha, hb⟩ := hl.out
  have HA : Hid (At w a aa) := ha
  have HB : Hid (At w b ba) := hb
  have HN : Hid (w.heap[bl]? = some (nodeObj false a ⟨qs, qo, qn, qk⟩ b aa ba)) := hn
  have hlt := (ncells hn).lt
  have c11 := s11 hn
  clear hn ha hb
  go_enter Tryz.func91, Tryz.ntmps91
  go_wp2_with (first | (go_at_call 121; refine (isRed_any _ _ _ (hl.out.alloc _)).mono ?_; rintro e w' ⟨rfl, rfl⟩; rw [show ((Tr.mk (some (false, a, ⟨qs, qo, qn, qk⟩, b)))).red = false from rfl])
                     | (go_at_call_of 89 (Value.pointer ra); refine (black_any r _ _ (hr.out.alloc _)).mono ?_; rintro e w' ⟨rfl, rfl⟩)
                     | (go_at_call 89; refine (black_any _ _ _ (hl.out.alloc _)).mono ?_; rintro e w' ⟨rfl, rfl⟩))
  go_region_held3 (fun w' => w'.cell? ⟨w.heap.size, 0, none⟩ = some (.int .i64 s) ∧ w'.cell? ⟨w.heap.size, 1, none⟩ = some (.int .i64 o) ∧ w'.cell? ⟨w.heap.size, 2, none⟩ = some (.int .i64 n) ∧ w'.cell? ⟨w.heap.size, 3, none⟩ = some (.int .i64 k) ∧ w'.cell? ⟨bl, 11, none⟩ = some (.pointer ba)) (first | assumption | simp [*, go_sem])
    (first | (go_at_call 91; refine (IH.out _ ba (HB.out.alloc _).drew (hr.out.alloc _).drew).mono ?_; rintro e w9 ⟨ma, rfl, hat9, hb9⟩; have k9 := s5 c11 hb9 hlt))
  have L9 := bA (bD hb9)
  have HM : Hid (At w9 ((Tr.mk (some (true, x, ⟨ts, to, tn, tk⟩, y)))) ma) := hat9
  have hl9 : Hid (At w9 ((Tr.mk (some (false, a, ⟨qs, qo, qn, qk⟩, b)))) (some ⟨bl, 0, none⟩)) := hl.out.keep L9
  have HA9 : Hid (At w9 a aa) := HA.out.keep L9
  have HN9 : Hid (w9.heap[bl]? = some (nodeObj false a ⟨qs, qo, qn, qk⟩ b aa ba)) := nkeep HN.out L9
  obtain ⟨d0, d1, d2, d3, d10, d11⟩ := s7 HN9.out
  clear k9 hat9 hb9 hl HA HB HN hr c11 hlt IH
  obtain ⟨mb, xa, ya, rfl, mn, hx, hy⟩ := HM.out
  have HX : Hid (At w9 x xa) := hx
  have HY : Hid (At w9 y ya) := hy
  have HMN : Hid (w9.heap[mb]? = some (nodeObj true x ⟨ts, to, tn, tk⟩ y xa ya)) := mn
  obtain ⟨e0, e1, e2, e3, e10, e11⟩ := s7 mn
  clear mn hx hy
  go_wp2_with (first | (go_at_call_of 121 (Value.pointer ya); refine (isRed_any _ _ _ HY).mono ?_; rintro e w' ⟨rfl, rfl⟩; rw [hyr])
                     | (go_at_call_of 121 (Value.pointer (some ⟨mb, 0, none⟩)); refine (isRed_any _ _ _ HM).mono ?_; rintro e w' ⟨rfl, rfl⟩; rw [show ((Tr.mk (some (true, x, ⟨ts, to, tn, tk⟩, y)))).red = true from rfl])
                     | (go_at_call 121; refine (isRed_any _ _ _ hl9).mono ?_; rintro e w' ⟨rfl, rfl⟩; rw [show ((Tr.mk (some (false, a, ⟨qs, qo, qn, qk⟩, b)))).red = false from rfl]))
  go_region_held3 (fun w' => w'.cell? ⟨bl, 0, none⟩ = some (.int .i64 qs) ∧ w'.cell? ⟨bl, 1, none⟩ = some (.int .i64 qo) ∧ w'.cell? ⟨bl, 2, none⟩ = some (.int .i64 qn) ∧ w'.cell? ⟨bl, 3, none⟩ = some (.int .i64 qk) ∧ w'.cell? ⟨bl, 10, none⟩ = some (.pointer aa) ∧ w'.cell? ⟨bl, 11, none⟩ = some (.pointer ba)) (first | assumption | simp [*, go_sem])
    (first | (go_at_call 121; refine (isRed_any _ _ _ hl9.out.drew).mono ?_; rintro e w' ⟨rfl, rfl⟩; rw [show ((Tr.mk (some (false, a, ⟨qs, qo, qn, qk⟩, b)))).red = false from rfl])
           | (go_at_call 90; refine (make_any false a qs qo qn qk ((Tr.mk (some (true, x, ⟨ts, to, tn, tk⟩, y)))) aa (some ⟨mb, 0, none⟩) _ (hf.out.of (by simp only [Tr.list] at *; rw [hm.out]; simp)) HA9.out.drew HM.out.drew).mono ?_; rintro e w8 ⟨b8, rfl, hat8, hb8⟩; have k8 := s7 (nkeep HN9.out (bD hb8))))
  go_wp2
  go_ret
  exact ⟨_, rfl, hat8, L9.trans ((bD hb8).mono L9.size)⟩

set_option maxHeartbeats 4000000 in
theorem joinRight_turn (s o n k : Int) (a b r : Tr) (qs qo qn qk : Int) (x y : Tr) (ts to tn tk : Int) (la ra : Option Addr) (w : World) (hf : Hid (fineL ((a.list ++ ⟨qs, qo, qn, qk⟩ :: b.list) ++ ⟨s, o, n, k⟩ :: r.list))) (hne : ((((Tr.mk (some (false, a, ⟨qs, qo, qn, qk⟩, b)))).bh : Int) == (r.bh : Int)) = false) (hyr : y.red = true)
    (hm : Hid (((Tr.mk (some (true, x, ⟨ts, to, tn, tk⟩, y)))).list = b.list ++ ⟨s, o, n, k⟩ :: r.list)) (hl : Hid (At w ((Tr.mk (some (false, a, ⟨qs, qo, qn, qk⟩, b)))) la)) (hr : Hid (At w r ra))
    (IH : Hid (∀ w ba, At w b ba → At w r ra → Calls Tryz.prog 91 #[.pointer ba, .agg #[.int .i64 s, .int .i64 o, .int .i64 n, .int .i64 k], .pointer ra] w fun e w' => Gave w ((Tr.mk (some (true, x, ⟨ts, to, tn, tk⟩, y)))) e w')) :
    Calls Tryz.prog 91 #[.pointer la, .agg #[.int .i64 s, .int .i64 o, .int .i64 n, .int .i64 k], .pointer ra] w fun e w' => Gave w ((Tr.mk (some (true, ((Tr.mk (some (false, a, ⟨qs, qo, qn, qk⟩, x)))), ⟨ts, to, tn, tk⟩, y.blk)))) e w' := by
  obtain ⟨bl, aa, ba, rfl, hn, ha, hb⟩ := hl.out
  have HA : Hid (At w a aa) := ha
  have HB : Hid (At w b ba) := hb
  have HN : Hid (w.heap[bl]? = some (nodeObj false a ⟨qs, qo, qn, qk⟩ b aa ba)) := hn
  have hlt := (ncells hn).lt
  have c11 := s11 hn
  clear hn ha hb
  go_enter Tryz.func91, Tryz.ntmps91
  go_wp2_with (first | (go_at_call 121; refine (isRed_any _ _ _ (hl.out.alloc _)).mono ?_; rintro e w' ⟨rfl, rfl⟩; rw [show ((Tr.mk (some (false, a, ⟨qs, qo, qn, qk⟩, b)))).red = false from rfl])
                     | (go_at_call_of 89 (Value.pointer ra); refine (black_any r _ _ (hr.out.alloc _)).mono ?_; rintro e w' ⟨rfl, rfl⟩)
                     | (go_at_call 89; refine (black_any _ _ _ (hl.out.alloc _)).mono ?_; rintro e w' ⟨rfl, rfl⟩))
  go_region_held3 (fun w' => w'.cell? ⟨w.heap.size, 0, none⟩ = some (.int .i64 s) ∧ w'.cell? ⟨w.heap.size, 1, none⟩ = some (.int .i64 o) ∧ w'.cell? ⟨w.heap.size, 2, none⟩ = some (.int .i64 n) ∧ w'.cell? ⟨w.heap.size, 3, none⟩ = some (.int .i64 k) ∧ w'.cell? ⟨bl, 11, none⟩ = some (.pointer ba)) (first | assumption | simp [*, go_sem])
    (first | (go_at_call 91; refine (IH.out _ ba (HB.out.alloc _).drew (hr.out.alloc _).drew).mono ?_; rintro e w9 ⟨ma, rfl, hat9, hb9⟩; have k9 := s5 c11 hb9 hlt))
  have L9 := bA (bD hb9)
  have HM : Hid (At w9 ((Tr.mk (some (true, x, ⟨ts, to, tn, tk⟩, y)))) ma) := hat9
  have hl9 : Hid (At w9 ((Tr.mk (some (false, a, ⟨qs, qo, qn, qk⟩, b)))) (some ⟨bl, 0, none⟩)) := hl.out.keep L9
  have HA9 : Hid (At w9 a aa) := HA.out.keep L9
  have HN9 : Hid (w9.heap[bl]? = some (nodeObj false a ⟨qs, qo, qn, qk⟩ b aa ba)) := nkeep HN.out L9
  obtain ⟨d0, d1, d2, d3, d10, d11⟩ := s7 HN9.out
  clear k9 hat9 hb9 hl HA HB HN hr c11 hlt IH
  obtain ⟨mb, xa, ya, rfl, mn, hx, hy⟩ := HM.out
  have HX : Hid (At w9 x xa) := hx
  have HY : Hid (At w9 y ya) := hy
  have HMN : Hid (w9.heap[mb]? = some (nodeObj true x ⟨ts, to, tn, tk⟩ y xa ya)) := mn
  obtain ⟨e0, e1, e2, e3, e10, e11⟩ := s7 mn
  clear mn hx hy
  go_wp2_with (first | (go_at_call_of 121 (Value.pointer ya); refine (isRed_any _ _ _ HY).mono ?_; rintro e w' ⟨rfl, rfl⟩; rw [hyr])
                     | (go_at_call_of 121 (Value.pointer (some ⟨mb, 0, none⟩)); refine (isRed_any _ _ _ HM).mono ?_; rintro e w' ⟨rfl, rfl⟩; rw [show ((Tr.mk (some (true, x, ⟨ts, to, tn, tk⟩, y)))).red = true from rfl])
                     | (go_at_call 121; refine (isRed_any _ _ _ hl9).mono ?_; rintro e w' ⟨rfl, rfl⟩; rw [show ((Tr.mk (some (false, a, ⟨qs, qo, qn, qk⟩, b)))).red = false from rfl]))
  go_region_held3 (fun w' => w'.cell? ⟨bl, 0, none⟩ = some (.int .i64 qs) ∧ w'.cell? ⟨bl, 1, none⟩ = some (.int .i64 qo) ∧ w'.cell? ⟨bl, 2, none⟩ = some (.int .i64 qn) ∧ w'.cell? ⟨bl, 3, none⟩ = some (.int .i64 qk) ∧ w'.cell? ⟨bl, 10, none⟩ = some (.pointer aa) ∧ w'.cell? ⟨mb, 10, none⟩ = some (.pointer xa)) (first | assumption | simp [*, go_sem])
    (first | (go_at_call 90; refine (make_any false a qs qo qn qk x aa xa _ (hf.out.tree (by simp only [Tr.list] at hm ⊢; rw [List.append_assoc, List.cons_append, ← hm.out]; refine List.Sublist.append (List.Sublist.refl _) (List.Sublist.cons_cons _ ?_); exact List.sublist_append_left _ _)) HA9.out.drew HX.out.drew).mono ?_; rintro e w8 ⟨b8, rfl, hat8, hb8⟩; have k8 := s7' (nkeep HN9.out (bD hb8)) (nkeep HMN.out (bD hb8))))
  have L8 := bD hb8
  have HLow : Hid (At w8 ((Tr.mk (some (false, a, ⟨qs, qo, qn, qk⟩, x)))) (some ⟨b8, 0, none⟩)) := hat8
  have HY8 : Hid (At w8 y ya) := HY.out.keep L8
  have HMN8 : Hid (w8.heap[mb]? = some (nodeObj true x ⟨ts, to, tn, tk⟩ y xa ya)) := nkeep HMN.out L8
  obtain ⟨f0, f1, f2, f3, f10, f11⟩ := s7 HMN8.out
  clear k8 hat8 hb8 HA9 HN9 hl9 HM HX HY HMN d0 d1 d2 d3 d10 d11 e0 e1 e2 e3 e10 e11
  go_wp2_with fail
  go_region_held3 (fun w' => w'.cell? ⟨mb, 0, none⟩ = some (.int .i64 ts) ∧ w'.cell? ⟨mb, 1, none⟩ = some (.int .i64 to) ∧ w'.cell? ⟨mb, 2, none⟩ = some (.int .i64 tn) ∧ w'.cell? ⟨mb, 3, none⟩ = some (.int .i64 tk) ∧ w'.cell? ⟨mb, 10, none⟩ = some (.pointer xa) ∧ w'.cell? ⟨mb, 11, none⟩ = some (.pointer ya)) (first | assumption | simp [*, go_sem])
    (first | (go_at_call 92; refine (blackened_any y ya _ (hf.out.tree (by simp only [Tr.list] at hm; rw [List.append_assoc, List.cons_append, ← hm.out]; refine List.Sublist.trans ?_ (List.sublist_append_right _ _); refine List.Sublist.cons _ ?_; refine List.Sublist.trans ?_ (List.sublist_append_right _ _); exact List.Sublist.cons _ (List.Sublist.refl _))) HY8.out.drew).mono ?_; rintro e w7 ⟨za, rfl, hat7, hb7⟩; have k7 := s7 (nkeep HMN8.out (bD hb7)))
           | (go_at_call 90; refine (make_any true _ ts to tn tk _ _ _ _ (hf.out.of (by simp only [Tr.list] at hm ⊢; rw [Tr.blk_list]; exact list_turn hm.out)) (HLow.out.keep (bD hb7)) hat7).mono ?_; rintro e w6 ⟨b6, rfl, hat6, hb6⟩; have k6 := s7 (nkeep (nkeep HMN8.out (bD hb7)) hb6)))
  go_wp2
  go_ret
  exact ⟨_, rfl, hat6, L9.trans ((L8.trans (((bD hb7).trans (hb6.mono (bD hb7).size)).mono L8.size)).mono L9.size)⟩

theorem ne_bh {a b : Nat} (h : a ≠ b) : ((a : Int) == (b : Int)) = false := by
  rw [beq_eq_false_iff_ne]; omega

theorem joinRight_any (s o n k : Int) (r : Tr) (ra : Option Addr) (hr0 : r.bal) (hr1 : r.red = false) : ∀ (l : Tr) (la : Option Addr) (w : World), fineL (l.list ++ ⟨s, o, n, k⟩ :: r.list) → l.bal → r.bh ≤ l.bh → At w l la → At w r ra →
    Calls Tryz.prog 91 #[.pointer la, .agg #[.int .i64 s, .int .i64 o, .int .i64 n, .int .i64 k], .pointer ra] w fun e w' => Gave w (Tr.jr ⟨s, o, n, k⟩ r l) e w'
  | (Tr.mk none), la, w, hf, hb, hbh, hl, hr => by
    have := joinRight_base s o n k (Tr.mk none) r la ra w hf rfl (by simp only [Tr.bh] at *; omega) hl hr
    simpa only [Tr.jr] using this
  | (Tr.mk (some (true, a, ⟨qs, qo, qn, qk⟩, b))), la, w, hf, hb, hbh, hl, hr => by
    have hbb : r.bh ≤ b.bh := by have := hb.2.2.1; simp only [Tr.bh, if_true] at hbh; omega
    have ih := fun w ba h1 h2 => joinRight_any s o n k r ra hr0 hr1 b ba w (hf.sub (by simp only [Tr.list]; refine List.Sublist.append ?_ (List.Sublist.refl _); exact List.Sublist.trans (List.Sublist.cons _ (List.Sublist.refl _)) (List.sublist_append_right _ _))) hb.2.1 hbb h1 h2
    have := joinRight_red s o n k a b r qs qo qn qk (Tr.jr ⟨s, o, n, k⟩ r b) la ra w hf (Tr.jr_list _ _ _) hl hr ih
    rw [Tr.jr, if_neg (by simp), Tr.fixR_true]
    exact this
  | (Tr.mk (some (false, a, ⟨qs, qo, qn, qk⟩, b))), la, w, hf, hb, hbh, hl, hr => by
    by_cases he : ((Tr.mk (some (false, a, ⟨qs, qo, qn, qk⟩, b)))).bh = r.bh
    · have := joinRight_base s o n k _ r la ra w hf rfl he hl hr
      rw [Tr.jr, if_pos ⟨rfl, he⟩]
      exact this
    · have hbb : r.bh ≤ b.bh := by have := hb.2.2.1; simp [Tr.bh] at hbh he; omega
      have ih := fun w ba h1 h2 => joinRight_any s o n k r ra hr0 hr1 b ba w (hf.sub (by simp only [Tr.list]; refine List.Sublist.append ?_ (List.Sublist.refl _); exact List.Sublist.trans (List.Sublist.cons _ (List.Sublist.refl _)) (List.sublist_append_right _ _))) hb.2.1 hbb h1 h2
      have hm := Tr.jr_list ⟨s, o, n, k⟩ r b
      have hne := ne_bh he
      rw [Tr.jr, if_neg (by simp [he])]
      generalize Tr.jr ⟨s, o, n, k⟩ r b = m at ih hm
      match m, ih, hm with
      | (Tr.mk none), ih, hm => exact joinRight_flat s o n k a b r qs qo qn qk (Tr.mk none) la ra w hf hne rfl hm hl hr ih
      | (Tr.mk (some (false, x, t, y))), ih, hm =>
        have e : Tr.fixR false a ⟨qs, qo, qn, qk⟩ ((Tr.mk (some (false, x, t, y)))) = (Tr.mk (some (false, a, ⟨qs, qo, qn, qk⟩, ((Tr.mk (some (false, x, t, y))))))) := by cases y <;> rfl
        rw [e]
        exact joinRight_flat s o n k a b r qs qo qn qk _ la ra w hf hne rfl hm hl hr ih
      | (Tr.mk (some (true, x, ⟨ts, to, tn, tk⟩, (Tr.mk none)))), ih, hm => exact joinRight_calm s o n k a b r qs qo qn qk x (Tr.mk none) ts to tn tk la ra w hf hne rfl hm hl hr ih
      | (Tr.mk (some (true, x, ⟨ts, to, tn, tk⟩, ((Tr.mk (some (false, y, u, z))))))), ih, hm => exact joinRight_calm s o n k a b r qs qo qn qk x _ ts to tn tk la ra w hf hne rfl hm hl hr ih
      | (Tr.mk (some (true, x, ⟨ts, to, tn, tk⟩, ((Tr.mk (some (true, y, u, z))))))), ih, hm => exact joinRight_turn s o n k a b r qs qo qn qk x _ ts to tn tk la ra w hf hne rfl hm hl hr ih
end Go.Proofs.YtmhpeppbhjpkiaaGreat

/- The contract of joinLeft: a tree and a piece put down the left edge of another. -/
namespace Go.Proofs.YtmhpeppbhjpkiaaGreat
open Go.RowKit

set_option maxHeartbeats 4000000 in
theorem joinLeft_base (s o n k : Int) (l r : Tr) (la ra : Option Addr) (w : World) (hf : Hid (fineL (l.list ++ ⟨s, o, n, k⟩ :: r.list))) (hred : r.red = false) (hbh : l.bh = r.bh) (hl : Hid (At w l la)) (hr : Hid (At w r ra)) :
    Calls Tryz.prog 93 #[.pointer la, .agg #[.int .i64 s, .int .i64 o, .int .i64 n, .int .i64 k], .pointer ra] w fun e w' => Gave w ((Tr.mk (some (true, l, ⟨s, o, n, k⟩, r)))) e w' := by
  go_enter Tryz.func93, Tryz.ntmps93
  go_wp2_with (first | (go_at_call 121; refine (isRed_any r _ _ (hr.out.alloc _)).mono ?_; rintro e w' ⟨rfl, rfl⟩; rw [hred])
                     | (go_at_call_of 89 (Value.pointer la); refine (black_any l _ _ (hl.out.alloc _)).mono ?_; rintro e w' ⟨rfl, rfl⟩; rw [hbh])
                     | (go_at_call_of 89 (Value.pointer ra); refine (black_any r _ _ (hr.out.alloc _)).mono ?_; rintro e w' ⟨rfl, rfl⟩)
                     | (go_at_call 90; refine (make_any true l s o n k r la ra _ (hf.out.of rfl) (hl.out.alloc _) (hr.out.alloc _)).mono ?_; rintro e w9 ⟨b9, rfl, hat9, hb9⟩))
  go_ret
  exact ⟨_, rfl, hat9, bA hb9⟩

set_option maxHeartbeats 4000000 in
theorem joinLeft_red (s o n k : Int) (a b l : Tr) (qs qo qn qk : Int) (m : Tr) (la ra : Option Addr) (w : World) (hf : Hid (fineL (l.list ++ ⟨s, o, n, k⟩ :: (a.list ++ ⟨qs, qo, qn, qk⟩ :: b.list)))) 
    (hm : Hid (m.list = l.list ++ ⟨s, o, n, k⟩ :: a.list)) (hl : Hid (At w l la)) (hr : Hid (At w ((Tr.mk (some (true, a, ⟨qs, qo, qn, qk⟩, b)))) ra))
    (IH : Hid (∀ w aa, At w l la → At w a aa → Calls Tryz.prog 93 #[.pointer la, .agg #[.int .i64 s, .int .i64 o, .int .i64 n, .int .i64 k], .pointer aa] w fun e w' => Gave w m e w')) :
    Calls Tryz.prog 93 #[.pointer la, .agg #[.int .i64 s, .int .i64 o, .int .i64 n, .int .i64 k], .pointer ra] w fun e w' => Gave w ((Tr.mk (some (true, m, ⟨qs, qo, qn, qk⟩, b)))) e w' := by
  obtain ⟨bl, aa, ba, rfl, hn, ha, hb⟩ := hr.out
  have HA : Hid (At w a aa) := ha
  have HB : Hid (At w b ba) := hb
  have HN : Hid (w.heap[bl]? = some (nodeObj true a ⟨qs, qo, qn, qk⟩ b aa ba)) := hn
  have hlt := (ncells hn).lt
  have c10 := s10 hn
  clear hn ha hb
  go_enter Tryz.func93, Tryz.ntmps93
  go_wp2_with (first | (go_at_call 121; refine (isRed_any _ _ _ (hr.out.alloc _)).mono ?_; rintro e w' ⟨rfl, rfl⟩; rw [show ((Tr.mk (some (true, a, ⟨qs, qo, qn, qk⟩, b)))).red = true from rfl])
                     | (go_at_call_of 89 (Value.pointer la); refine (black_any l _ _ (hl.out.alloc _)).mono ?_; rintro e w' ⟨rfl, rfl⟩)
                     | (go_at_call 89; refine (black_any _ _ _ (hr.out.alloc _)).mono ?_; rintro e w' ⟨rfl, rfl⟩))
  go_region_held3 (fun w' => w'.cell? ⟨w.heap.size, 0, none⟩ = some (.int .i64 s) ∧ w'.cell? ⟨w.heap.size, 1, none⟩ = some (.int .i64 o) ∧ w'.cell? ⟨w.heap.size, 2, none⟩ = some (.int .i64 n) ∧ w'.cell? ⟨w.heap.size, 3, none⟩ = some (.int .i64 k) ∧ w'.cell? ⟨bl, 10, none⟩ = some (.pointer aa)) (first | assumption | simp [*, go_sem])
    (first | (go_at_call 93; refine (IH.out _ aa (hl.out.alloc _).drew (HA.out.alloc _).drew).mono ?_; rintro e w9 ⟨ma, rfl, hat9, hb9⟩; have k9 := s5 c10 hb9 hlt))
  have L9 := bA (bD hb9)
  have HM : Hid (At w9 m ma) := hat9
  have hr9 : Hid (At w9 ((Tr.mk (some (true, a, ⟨qs, qo, qn, qk⟩, b)))) (some ⟨bl, 0, none⟩)) := hr.out.keep L9
  have HB9 : Hid (At w9 b ba) := HB.out.keep L9
  have HN9 : Hid (w9.heap[bl]? = some (nodeObj true a ⟨qs, qo, qn, qk⟩ b aa ba)) := nkeep HN.out L9
  obtain ⟨d0, d1, d2, d3, d10, d11⟩ := s7 HN9.out
  clear k9 hat9 hb9 hl HA HB HN hr c10 hlt IH
  go_wp2_with (first | (go_at_call_of 121 (Value.pointer ma); refine (isRed_any _ _ _ HM).mono ?_; rintro e w' ⟨rfl, rfl⟩)
                     | (go_at_call 121; refine (isRed_any _ _ _ hr9).mono ?_; rintro e w' ⟨rfl, rfl⟩; rw [show ((Tr.mk (some (true, a, ⟨qs, qo, qn, qk⟩, b)))).red = true from rfl]))
  go_region_held3 (fun w' => w'.cell? ⟨bl, 0, none⟩ = some (.int .i64 qs) ∧ w'.cell? ⟨bl, 1, none⟩ = some (.int .i64 qo) ∧ w'.cell? ⟨bl, 2, none⟩ = some (.int .i64 qn) ∧ w'.cell? ⟨bl, 3, none⟩ = some (.int .i64 qk) ∧ w'.cell? ⟨bl, 10, none⟩ = some (.pointer aa) ∧ w'.cell? ⟨bl, 11, none⟩ = some (.pointer ba)) (first | assumption | simp [*, go_sem])
    (first | (go_at_call 121; refine (isRed_any _ _ _ hr9.out.drew).mono ?_; rintro e w' ⟨rfl, rfl⟩; rw [show ((Tr.mk (some (true, a, ⟨qs, qo, qn, qk⟩, b)))).red = true from rfl])
           | (go_at_call 90; refine (make_any true m qs qo qn qk b ma ba _ (hf.out.of (by simp only [Tr.list] at *; rw [hm.out]; simp)) HM.out.drew HB9.out.drew).mono ?_; rintro e w8 ⟨b8, rfl, hat8, hb8⟩; have k8 := s7 (nkeep HN9.out (bD hb8))))
  go_wp2
  go_ret
  exact ⟨_, rfl, hat8, L9.trans ((bD hb8).mono L9.size)⟩

set_option maxHeartbeats 4000000 in
theorem joinLeft_flat (s o n k : Int) (a b l : Tr) (qs qo qn qk : Int) (m : Tr) (la ra : Option Addr) (w : World) (hf : Hid (fineL (l.list ++ ⟨s, o, n, k⟩ :: (a.list ++ ⟨qs, qo, qn, qk⟩ :: b.list)))) (hne : ((l.bh : Int) == (((Tr.mk (some (false, a, ⟨qs, qo, qn, qk⟩, b)))).bh : Int)) = false) (hmr : m.red = false)
    (hm : Hid (m.list = l.list ++ ⟨s, o, n, k⟩ :: a.list)) (hl : Hid (At w l la)) (hr : Hid (At w ((Tr.mk (some (false, a, ⟨qs, qo, qn, qk⟩, b)))) ra))
    (IH : Hid (∀ w aa, At w l la → At w a aa → Calls Tryz.prog 93 #[.pointer la, .agg #[.int .i64 s, .int .i64 o, .int .i64 n, .int .i64 k], .pointer aa] w fun e w' => Gave w m e w')) :
    Calls Tryz.prog 93 #[.pointer la, .agg #[.int .i64 s, .int .i64 o, .int .i64 n, .int .i64 k], .pointer ra] w fun e w' => Gave w ((Tr.mk (some (false, m, ⟨qs, qo, qn, qk⟩, b)))) e w' := by
  obtain ⟨bl, aa, ba, rfl, hn, ha, hb⟩ := hr.out
  have HA : Hid (At w a aa) := ha
  have HB : Hid (At w b ba) := hb
  have HN : Hid (w.heap[bl]? = some (nodeObj false a ⟨qs, qo, qn, qk⟩ b aa ba)) := hn
  have hlt := (ncells hn).lt
  have c10 := s10 hn
  clear hn ha hb
  go_enter Tryz.func93, Tryz.ntmps93
  go_wp2_with (first | (go_at_call 121; refine (isRed_any _ _ _ (hr.out.alloc _)).mono ?_; rintro e w' ⟨rfl, rfl⟩; rw [show ((Tr.mk (some (false, a, ⟨qs, qo, qn, qk⟩, b)))).red = false from rfl])
                     | (go_at_call_of 89 (Value.pointer la); refine (black_any l _ _ (hl.out.alloc _)).mono ?_; rintro e w' ⟨rfl, rfl⟩)
                     | (go_at_call 89; refine (black_any _ _ _ (hr.out.alloc _)).mono ?_; rintro e w' ⟨rfl, rfl⟩))
  go_region_held3 (fun w' => w'.cell? ⟨w.heap.size, 0, none⟩ = some (.int .i64 s) ∧ w'.cell? ⟨w.heap.size, 1, none⟩ = some (.int .i64 o) ∧ w'.cell? ⟨w.heap.size, 2, none⟩ = some (.int .i64 n) ∧ w'.cell? ⟨w.heap.size, 3, none⟩ = some (.int .i64 k) ∧ w'.cell? ⟨bl, 10, none⟩ = some (.pointer aa)) (first | assumption | simp [*, go_sem])
    (first | (go_at_call 93; refine (IH.out _ aa (hl.out.alloc _).drew (HA.out.alloc _).drew).mono ?_; rintro e w9 ⟨ma, rfl, hat9, hb9⟩; have k9 := s5 c10 hb9 hlt))
  have L9 := bA (bD hb9)
  have HM : Hid (At w9 m ma) := hat9
  have hr9 : Hid (At w9 ((Tr.mk (some (false, a, ⟨qs, qo, qn, qk⟩, b)))) (some ⟨bl, 0, none⟩)) := hr.out.keep L9
  have HB9 : Hid (At w9 b ba) := HB.out.keep L9
  have HN9 : Hid (w9.heap[bl]? = some (nodeObj false a ⟨qs, qo, qn, qk⟩ b aa ba)) := nkeep HN.out L9
  obtain ⟨d0, d1, d2, d3, d10, d11⟩ := s7 HN9.out
  clear k9 hat9 hb9 hl HA HB HN hr c10 hlt IH
  go_wp2_with (first | (go_at_call_of 121 (Value.pointer ma); refine (isRed_any _ _ _ HM).mono ?_; rintro e w' ⟨rfl, rfl⟩; rw [hmr])
                     | (go_at_call 121; refine (isRed_any _ _ _ hr9).mono ?_; rintro e w' ⟨rfl, rfl⟩; rw [show ((Tr.mk (some (false, a, ⟨qs, qo, qn, qk⟩, b)))).red = false from rfl]))
  go_region_held3 (fun w' => w'.cell? ⟨bl, 0, none⟩ = some (.int .i64 qs) ∧ w'.cell? ⟨bl, 1, none⟩ = some (.int .i64 qo) ∧ w'.cell? ⟨bl, 2, none⟩ = some (.int .i64 qn) ∧ w'.cell? ⟨bl, 3, none⟩ = some (.int .i64 qk) ∧ w'.cell? ⟨bl, 10, none⟩ = some (.pointer aa) ∧ w'.cell? ⟨bl, 11, none⟩ = some (.pointer ba)) (first | assumption | simp [*, go_sem])
    (first | (go_at_call 121; refine (isRed_any _ _ _ hr9.out.drew).mono ?_; rintro e w' ⟨rfl, rfl⟩; rw [show ((Tr.mk (some (false, a, ⟨qs, qo, qn, qk⟩, b)))).red = false from rfl])
           | (go_at_call 90; refine (make_any false m qs qo qn qk b ma ba _ (hf.out.of (by simp only [Tr.list] at *; rw [hm.out]; simp)) HM.out.drew HB9.out.drew).mono ?_; rintro e w8 ⟨b8, rfl, hat8, hb8⟩; have k8 := s7 (nkeep HN9.out (bD hb8))))
  go_wp2
  go_ret
  exact ⟨_, rfl, hat8, L9.trans ((bD hb8).mono L9.size)⟩
end Go.Proofs.YtmhpeppbhjpkiaaGreat

