/- The law's own 'alive': its fixed facts hold. -/
import Derived.Test.YtpifjghhlcjedaaOps
import Derived.Test.YtpifjghhlcjedaaPlain
import Derived.Test.YtpifjghhlcjedaaFindB
import Derived.Test.YtpifjghhlcjedaaCheck2
import Derived.Deep.CutRange
namespace Go.Proofs.Ytpifjghhlcjedaa
open Go.RowKit

def p1 : Pc := ⟨0, 0, 1, 0⟩
def p2 : Pc := ⟨0, 0, 2, 0⟩
def p3 : Pc := ⟨0, 0, 3, 0⟩
def tA : Tr := (Tr.mk (some (false, ((Tr.mk (some (false, (Tr.mk none), p1, (Tr.mk none))))), p2, ((Tr.mk (some (false, (Tr.mk none), p3, (Tr.mk none))))))))
def tB : Tr := (Tr.mk (some (false, ((Tr.mk (some (true, (Tr.mk none), p1, (Tr.mk none))))), p3, (Tr.mk none))))
theorem build123 : Tr.buildT (good (plainL [1, 2, 3])) = tA := by
  have e : good (plainL [1, 2, 3]) = [p1, p2, p3] := rfl
  rw [e, Tr.buildT_some (l := [p1, p2, p3]) (p := p2) rfl]
  show Tr.joinT (Tr.buildT [p1]) p2 (Tr.buildT [p3]) = tA
  rw [Tr.buildT_some (l := [p1]) (p := p1) rfl, Tr.buildT_some (l := [p3]) (p := p3) rfl]
  show Tr.joinT (Tr.joinT (Tr.buildT []) p1 (Tr.buildT [])) p2 (Tr.joinT (Tr.buildT []) p3 (Tr.buildT [])) = tA
  rw [Tr.buildT_nil]; rfl
theorem del123 : Tr.gluT (Tr.splitT tA 1).1 (Tr.splitT tA (1 + 1)).2 = tB := rfl
theorem whole123 : tA.whole := by rw [← build123]; exact (Tr.buildT_ok _ _ (Nat.le_refl _)).1
theorem fine123 : tA.fine := by rw [← build123]; exact (fineL_good (L := plainL [1, 2, 3]) (by decide) : fineL _).of (Tr.buildT_ok _ _ (Nat.le_refl _)).2

theorem ints_cells (w : World) (cs : List Int) : ∀ j x, cs[j]? = some x → (w.alloc (.cells (cs.map (Value.int .i64)).toArray 3)).cell? ⟨w.heap.size, j, none⟩ = some (.int .i64 x) := by
  intro j x h
  rw [World.cell?_alloc_mark]
  simp [h]

theorem hit3 {j : Nat} {x : Int} (h : Hit52 tA.list 3 j x) : j = 2 ∧ x = 0 := by
  obtain ⟨p, h1, h2, h3, h4⟩ := h
  have e : tA.list = [p1, p2, p3] := rfl
  rw [e] at h1 h4
  match j, h1, h4 with
  | 0, h1, h4 => simp [p1] at h1; subst h1; simp [sB] at h4 h3; omega
  | 1, h1, h4 => simp [p2] at h1; subst h1; simp [sB, p1] at h4 h3; omega
  | 2, h1, h4 => simp [sB, p1, p2] at h4; exact ⟨rfl, by omega⟩
  | j + 3, h1, h4 => simp at h1

theorem box_cellA {w : World} {b : Nat} {a : Option Addr} (h : w.heap[b]? = some (Obj.cells #[.pointer a] 26 (0, 0))) : w.cell? ⟨b, 0, none⟩ = some (.pointer a) := by
  rw [cell_of_row w b 0 _ 26 (0, 0) h]; rfl

/-- the cells of the first piece of a row -/
theorem own_first {w : World} {base n c : Nat} {ao : Option Addr} {p : Pc} {L : List Pc} (h : w.ownsRow base 32 4 (.slice ao n c) n (cells (p :: L))) : ∃ g, ao = some ⟨g, 0, none⟩ ∧ w.cell? ⟨g, 0, none⟩ = some (.int .i64 p.s) ∧ w.cell? ⟨g, 1, none⟩ = some (.int .i64 p.o) ∧ w.cell? ⟨g, 2, none⟩ = some (.int .i64 p.l) ∧ w.cell? ⟨g, 3, none⟩ = some (.int .i64 p.n) := by
  obtain ⟨ao', n', c', e1, e2, e3, e4⟩ := own_rdb h
  obtain ⟨rfl, rfl, rfl⟩ : ao = ao' ∧ n = n' ∧ c = c' := by simpa using e1
  rcases e4 with e4 | ⟨b, off, rfl, hr⟩
  · cases e4
  · have hr0 := hr 0 p rfl
    rcases h.2 with ⟨h1, _⟩ | ⟨g, cap, cur, h1, _⟩
    · simp at h1
    · have : b = g ∧ off = 0 := by simp at h1; exact ⟨h1.1.1, h1.1.2⟩
      obtain ⟨rfl, rfl⟩ := this
      simp only [Nat.zero_mul, Nat.add_zero, Nat.zero_add] at hr0
      exact ⟨b, rfl, hr0⟩

theorem del_alive (a : Option Addr) (w : World) (h : At w tA a) : Calls Try.prog 17 #[.agg #[.pointer a], .int .i64 1] w fun e w' => ∃ x, e = .returned (.tuple #[.agg #[.pointer x], .int .i64 0]) ∧ At w' tB x ∧ Below w.heap.size w w' := by
  have k := Delete_yes tA a 1 w (show 1 < tA.size by decide) fine123 whole123 h
  rw [del123] at k
  exact k
theorem find_alive (a : Option Addr) (w : World) (h : At w tA a) : Calls Try.prog 51 #[.agg #[.pointer a], .int .i64 3] w fun e w' => e = .returned (.tuple #[.int .i64 2, .int .i64 0, .bool true]) ∧ Below w.heap.size w w' := by
  refine (Find52_yes tA a 3 w (by decide) (by decide) fine123 h).mono ?_
  rintro e w4 ⟨j, x, rfl, hh, hb4⟩
  obtain ⟨rfl, rfl⟩ := hit3 hh
  exact ⟨rfl, hb4⟩

/-- the two rows of the tree without its middle piece -/
theorem rowsB {w : World} {base c : Nat} {ao : Option Addr} (h : w.ownsRow base 53 10 (.slice ao tB.size c) tB.size (rcells (rowsT tB))) : ∃ g, ao = some ⟨g, 0, none⟩ ∧ 2 ≤ c ∧ w.cell? ⟨g, 2, none⟩ = some (.int .i64 3) ∧ w.cell? ⟨g, 14, none⟩ = some (.bool true) ∧ RowR w g 0 (rowsT tB) := by
  rcases h.2 with ⟨h1, h2⟩ | ⟨g, cap, cur, h1, hb, hg, h2, h3, h4, h5⟩
  · exact absurd h2 (by decide)
  · have e : ao = some ⟨g, 0, none⟩ ∧ c = cap := by simp at h1; exact h1
    obtain ⟨rfl, rfl⟩ := e
    have hR : RowR w g 0 (rowsT tB) := own_rowR h
    exact ⟨g, rfl, h2, (hR 0 _ rfl).2.2.1, (hR 1 _ rfl).2.2.2.2.1, hR⟩
theorem alp {w : World} {b o : Nat} {v : Value} (h : w.cell? ⟨b, o, none⟩ = some v) : ∀ x : Obj, (w.alloc x).cell? ⟨b, o, none⟩ = some v := fun x => by
  rw [World.cell?_alloc_past x b o (cell_lt h)]; exact h
theorem alp2 {w : World} {b o : Nat} {v : Value} (h : w.cell? ⟨b, o, none⟩ = some v) : ∀ x y : Obj, ((w.alloc x).alloc y).cell? ⟨b, o, none⟩ = some v := fun x y => alp (alp h x) y
theorem Check_last (w : World) (g c : Nat) (hc : 2 ≤ c) (h : RowR w g 0 (rowsT tB)) : Calls Try.prog 37 #[.slice (some ⟨g, 10, none⟩) 1 (c - 1)] w fun e w' => e = .returned (.int .i64 21) ∧ Below w.heap.size w w' := by
  have k := Check_any ((rowsT tB).drop 1) (.slice (some ⟨g, 10, none⟩) 1 (c - 1)) w (by decide) ⟨_, _, _, rfl, by decide, by omega, .inr ⟨g, 10, rfl, by simpa using h.drop 1⟩⟩
  have e : checkB ((rowsT tB).drop 1) = false := by
    rw [← Bool.not_eq_true]
    intro hc
    obtain ⟨t, h1, -, h3⟩ := (checkB_iff (by decide)).1 hc
    cases t using Tr.el with
    | nil => simp [rowsT, tB] at h3
    | node c l p r =>
      have e2 := congrArg (fun L => (L.head?).map Rw.red) h3
      have e3 : c = true := by simpa [rowsT, rowOf, tB] using e2
      have := h1.2
      rw [e3] at this
      simp [Tr.red] at this
  rw [e] at k
  exact k
theorem plain_one (b : Nat) (w : World) (h : w.cell? ⟨b, 0, none⟩ = some (.int .i64 1)) :
    Calls Try.prog 50 #[.slice (some ⟨b, 0, none⟩) 1 1] w fun e w' => ∃ g c, e = .returned (.slice (some ⟨g, 0, none⟩) 1 c) ∧ w'.cell? ⟨g, 0, none⟩ = some (.int .i64 0) ∧ w'.cell? ⟨g, 1, none⟩ = some (.int .i64 0) ∧ w'.cell? ⟨g, 2, none⟩ = some (.int .i64 1) ∧ w'.cell? ⟨g, 3, none⟩ = some (.int .i64 0) ∧ Below w.heap.size w w' := by
  refine (plain_any b [1] w (by decide) (fun j x hj => ?_)).mono ?_
  · cases j with
    | zero => simp at hj; subst hj; exact h
    | succ j => simp at hj
  · rintro e w5 ⟨ao5, c5, rfl, ho5, hb5⟩
    obtain ⟨g5, rfl, q0, q1, q2, q3⟩ := own_first (p := ⟨0, 0, 1, 0⟩) (L := []) ho5
    exact ⟨g5, c5, rfl, q0, q1, q2, q3, hb5⟩

set_option maxRecDepth 100000 in
set_option maxHeartbeats 4000000 in
theorem alive_any (w : World) : Calls Try.prog 9 #[] w fun e w' => e = .returned (.bool true) ∧ Below w.heap.size w w' := by
  go_enter Try.func9, Try.ntmps9
  go_wp2_with (first | (go_at_call 50; refine (plain_any w.heap.size [1, 2, 3] _ (by decide) (ints_cells w [1, 2, 3])).mono ?_; rintro e w1 ⟨ao1, c1, rfl, ho1, hb1⟩)
                     | (go_at_call 12; refine (Build_any _ (plainL [1, 2, 3]) _ (by decide) (own_rdb ho1)).mono ?_; rw [build123]; rintro e w2 ⟨a2, rfl, hat2, hb2⟩; (have L2 : Below w.heap.size w w2 := (bA hb1).trans (hb2.mono (bA hb1).size)); (have T2 : Hid ((w2.alloc (.cells #[.pointer a2] 26)).heap[w2.heap.size]? = some (Obj.cells #[.pointer a2] 26 (0, 0))) := heap_alloc_new _ _); (have H2 : Hid (At (w2.alloc (.cells #[.pointer a2] 26)) tA a2) := hat2.alloc _); clear hat2 ho1)
                     | (go_at_call 17; refine (del_alive a2 _ H2.out).mono ?_; rintro e w3 ⟨x3, rfl, hat3, hb3⟩; (have L3 : Below w.heap.size w w3 := L2.trans ((bA hb3).mono L2.size)); (have T3 : Hid ((w3.alloc (.cells #[.pointer x3] 26)).heap[w2.heap.size]? = some (Obj.cells #[.pointer a2] 26 (0, 0))) := nkeep (nkeep T2.out hb3) (bAlloc (Below.refl _ _) _)); (have U3 : Hid ((w3.alloc (.cells #[.pointer x3] 26)).heap[w3.heap.size]? = some (Obj.cells #[.pointer x3] 26 (0, 0))) := heap_alloc_new _ _); (have H3 : Hid (At (w3.alloc (.cells #[.pointer x3] 26)) tA a2) := (H2.out.keep hb3).alloc _); (have D3 : Hid (At (w3.alloc (.cells #[.pointer x3] 26)) tB x3) := hat3.alloc _); (have t3 := box_cellA T3.out); (have u3 := box_cellA U3.out); clear hat3 H2 T2)
                     | (go_at_call 51; refine (find_alive a2 _ H3.out).mono ?_; rintro e w4 ⟨rfl, hb4⟩; (have L4 : Below w.heap.size w w4 := L3.trans ((bA hb4).mono L3.size)); (have T4 : Hid (w4.heap[w2.heap.size]? = some (Obj.cells #[.pointer a2] 26 (0, 0))) := nkeep T3.out hb4); (have U4 : Hid (w4.heap[w3.heap.size]? = some (Obj.cells #[.pointer x3] 26 (0, 0))) := nkeep U3.out hb4); (have H4 : Hid (At w4 tA a2) := H3.out.keep hb4); (have D4 : Hid (At w4 tB x3) := D3.out.keep hb4); (have t4 := box_cellA T4.out); (have u4 := box_cellA U4.out); clear H3 D3 T3 U3 t3 u3))
  go_cut [7, 8] from 24 to 32 (fun x7 x8 wx => x8 = .int .i64 20 ∧ Below w4.heap.size w4 wx)
  case first =>
    have T4a := alp t4
    have T4b := alp2 t4
    go_region_with
      (first | (go_at_call 50; refine (plain_one _ _ (by simp)).mono ?_; rintro e w5 ⟨g5, c5, rfl, q0, q1, q2, q3, hb5⟩; (have M5 := bD hb5); (have B45 : Below w4.heap.size w4 w5 := by first | exact bA M5 | exact bA2 M5); have k5 := box_cellA (nkeep T4.out B45); (have k5a := alp k5); (have v0 := alp q0); (have v1 := alp q1); (have v2 := alp q2); (have v3 := alp q3))
             | (go_at_call 16; refine (Insert_place tA a2 4 0 0 1 0 _ (by decide) (by first | exact H4.out.keep B45 | exact (H4.out.keep B45).alloc _)).mono ?_; rintro e w6 ⟨rfl, hb6⟩; (have B56 : Below w5.heap.size w5 w6 := by first | exact hb6 | exact bA hb6); (have B46 : Below w4.heap.size w4 w6 := B45.trans (B56.mono B45.size)); (have M6 := M5.trans (B56.mono M5.size)); obtain ⟨c6, f6⟩ := bcell hb6; obtain ⟨d6, g6⟩ := bcell M6; have k6 := box_cellA (nkeep T4.out B46)))
    all_goals (go_wp2_with fail; go_meet)
    all_goals first | exact ⟨rfl, bAlloc B46 _⟩ | exact ⟨rfl, B46.setCell (p := ⟨w5.heap.size, 0, none⟩) B45.size _⟩ | exact ⟨rfl, B46.setCell (p := ⟨w4.heap.size, 0, none⟩) (Nat.le_refl _) _⟩ | exact ⟨rfl, B46.setCell (p := ⟨w4.heap.size + 1, 0, none⟩) (Nat.le_succ _) _⟩
  case rest =>
  obtain ⟨rfl, X6⟩ := hcut
  have H6 : Hid (At wc tA a2) := H4.out.keep X6
  have D6 : Hid (At wc tB x3) := D4.out.keep X6
  have T6 : Hid (wc.heap[w2.heap.size]? = some (Obj.cells #[.pointer a2] 26 (0, 0))) := nkeep T4.out X6
  have U6 : Hid (wc.heap[w3.heap.size]? = some (Obj.cells #[.pointer x3] 26 (0, 0))) := nkeep U4.out X6
  have L6 : Below w.heap.size w wc := L4.trans (X6.mono L4.size)
  have t6 := box_cellA T6.out
  have u6 := box_cellA U6.out
  clear X6 H4 D4 T4 U4 t4 u4 L4
  go_wp2_with (first | (go_at_call 21; refine (Rows_any tB x3 _ (show tB.size ≤ 2097152 by decide) D6).mono ?_; rintro e w8 ⟨ao8, c8, rfl, ho8, hb8⟩; obtain ⟨g8, rfl, y0, y1, y2, y3⟩ := rowsB ho8; (have T8 : Hid (w8.heap[w2.heap.size]? = some (Obj.cells #[.pointer a2] 26 (0, 0))) := nkeep T6.out hb8); (have H8 : Hid (At w8 tA a2) := H6.out.keep hb8); (have t8 := box_cellA T8.out); (have L8 : Below w.heap.size w w8 := L6.trans (hb8.mono L6.size)); (have Y3 : Hid (RowR w8 g8 0 (rowsT tB)) := y3); clear y3 ho8; (have t9 := alp t8); (have y5 := alp2 y1); (have y6 := alp2 y2); (have y7 : (2 : Int) ≤ (c8 : Int) := by omega); (have y8 : (1 : Int) ≤ (c8 : Int) := by omega); (have y9 : ¬ c8 = 1 := by omega); rw [show tB.size = 2 from rfl])
                     | (go_at_call 19; refine (Len_any tA a2 _ H8).mono ?_; rintro e w' ⟨rfl, rfl⟩; rw [show tA.size = 3 from rfl])
                     | (go_at_call 52; refine (Bytes_any tA a2 _ (H8.out.alloc _)).mono ?_; rintro e w' ⟨rfl, rfl⟩; rw [show tA.byt = 6 from rfl])
                     | (go_at_call 37; refine (Check_last _ g8 c8 y0 (Y3.out.keep (bAA _ _ _))).mono ?_; rintro e w7 ⟨rfl, hb7⟩))
  go_ret
  exact ⟨rfl, (bAlloc (bAlloc L8 _) _).trans (hb7.mono (by have := L8.size; simp; omega))⟩
end Go.Proofs.Ytpifjghhlcjedaa
