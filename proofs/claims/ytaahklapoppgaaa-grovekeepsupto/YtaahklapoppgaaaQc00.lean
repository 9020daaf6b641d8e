/- What a crossing gives, well or not; a history and a crossing in boxes. -/
import Derived.Test.YtaahklapoppgaaaQo03
import Derived.Test.YtaahklapoppgaaaQm28
import Derived.Test.YtaahklapoppgaaaQm29
namespace Go.Proofs.Ytaahklapoppgaaa
open Go.RowKit

set_option maxRecDepth 8000
noncomputable def crW (z : Int) (s : Wk) : Wk := if z = 0 then s else ⟨[], 0, [], 0, zm⟩
theorem crW_yes (s : Wk) : crW 0 s = s := if_pos rfl
/-- a crossing's answer: the history, the edits, the marks -/
def CrQ (z : Int) (s : Wk) (w : World) (e : Ending) (w' : World) : Prop := ∃ ao n k H va vn vc F, e = .returned (.tuple #[.agg #[.slice ao n k, .int .i64 s.now], .agg (cxa (.slice va vn vc) s.cur s.m), .int .i64 z]) ∧ Grz w' ao H ∧ H.length = n ∧ n ≤ k ∧ H.map Nr.d = s.G ∧ Edz w' va F ∧ F.length = vn ∧ vn ≤ vc ∧ F.map Er.d = s.E ∧ Mw s.m ∧ (∀ (a b : Nat) (W' : World), Kept a b w' W' → b ≤ w.heap.size → Grz W' ao H ∧ Edz W' va F) ∧ Below w.heap.size w w'
theorem CrQ.of {z : Int} {s : Wk} {w w' : World} {e : Ending} (h : CrP zm z s w e w') : CrQ z (crW z s) w e w' := by
  by_cases hz : z = 0
  · obtain ⟨lo, p, B, k, H, X, S, va, vn, vc, F, rfl, h1, h2, h3, h4, h5, h6, h7, h8, h9, h10⟩ := h.1 hz
    subst hz
    rw [crW_yes]
    have ho := h5.rs.own 0 _ rfl
    have hn : w'.ownsRow (p + 1) 77 3 (.slice va vn vc) vn (ecs F) := by have := ho; dsimp only at this; rwa [h6] at this
    exact ⟨_, _, _, H, va, vn, vc, F, rfl, h4.grz, rfl, h8, h1, h5.ez, h6, (own_nil hn).1, h2, h7, (fun a b W' hk hb => ⟨(h4.kept hk (.inl (by omega))).grz, (h5.kept hk (.inl (by have := h4.l0; have := h4.h0; omega))).ez⟩), h10⟩
  · obtain ⟨rfl, h4⟩ := h.2 hz
    have e1 : crW z s = ⟨[], 0, [], 0, zm⟩ := if_neg hz
    rw [e1]
    exact ⟨none, 0, 0, [], none, 0, 0, [], rfl, grz_nil _, rfl, Nat.le_refl _, rfl, ⟨fun k r hk => by simp at hk, fun k r hk => by simp at hk⟩, rfl, Nat.le_refl _, rfl, mw_zm, (fun a b W' hk hb => ⟨grz_nil _, ⟨fun k r hk => by simp at hk, fun k r hk => by simp at hk⟩⟩), h4⟩
theorem undo_q (ao : Option Addr) (n c : Nat) (now : Int) (G : List Nr) (m : List Int) (w : World) (HG : Hid (Grz w ao G)) (hn : G.length = n) (hc : n ≤ c) (hm : Mw m) :
    Calls Try.prog 24 #[.agg #[.slice ao n c, .int .i64 now], .agg (mk m)] w fun e w' => CrQ (undE (G.map Nr.d) now m) (crW (undE (G.map Nr.d) now m) ((Wk.new (G.map Nr.d) now m).up now.toNat)) w e w' :=
  (undo_walk zm rfl z50 b50 ao n c now G m w HG hn hc hm).mono fun _ _ h => CrQ.of h
theorem redo_q (ao : Option Addr) (n c : Nat) (now : Int) (G : List Nr) (m : List Int) (w : World) (HG : Hid (Grz w ao G)) (hn : G.length = n) (hc : n ≤ c) (hm : Mw m) :
    Calls Try.prog 25 #[.agg #[.slice ao n c, .int .i64 now], .agg (mk m)] w fun e w' => CrQ (redE (G.map Nr.d) now m) (crW (redE (G.map Nr.d) now m) ((Wk.new (G.map Nr.d) now m).down (at' (G.map Nr.d) now.toNat).nxt.toNat)) w e w' :=
  (redo_walk zm rfl z50 b50 ao n c now G m w HG hn hc hm).mono fun _ _ h => CrQ.of h
theorem go_q (ao : Option Addr) (n c : Nat) (now tt : Int) (G : List Nr) (m : List Int) (w : World) (HG : Hid (Grz w ao G)) (hn : G.length = n) (hc : n ≤ c) (hm : Mw m) (hbig : Hid (∀ d ∈ G.map Nr.d, d.ed.length ≤ 1048576)) :
    Calls Try.prog 26 #[.agg #[.slice ao n c, .int .i64 now], .int .i64 tt, .agg (mk m)] w fun e w' => CrQ (goE (G.map Nr.d) now tt m) (crW (goE (G.map Nr.d) now tt m) ((Wk.new (G.map Nr.d) now m).go (pathU (G.map Nr.d) now.toNat tt.toNat) (pathD (G.map Nr.d) now.toNat tt.toNat))) w e w' :=
  (go_walk zm rfl z50 b50 ao n c now tt G m w HG hn hc hm hbig).mono fun _ _ h => CrQ.of h
/-- a comparison in a region that draws -/
theorem yi_bin {ops : Array Oper} {S : World → Prop} {op : Oper} {a : Act} {v : Value} (hw : Region.wanted op (yielded ops a.tmps) = true) (b : BinOp) (t t2 : TypeId) (x y : Operand) (ho : op.op = .binOp b t x y t2) {u1 u2 : Array Value} (hx : a.eval x = .agg u1) (hy : a.eval y = .agg u2) (hgt : Try.prog.eqGuardType Try.prog.depth t = false) (hrun : ∀ w, (binOp b t (.agg u1) (.agg u2)).run Try.prog w = .ok v w) : YieldsIf Try.prog ops S op v a :=
  Yields.yieldsIf (Or.inl ⟨hw, fun w => by
    have hg : (eqGuard b t x y (.agg u1) (.agg u2)).run Try.prog w = .ok () w := run_eqGuard_agg _ _ _ _ _ _ _ hgt
    simp only [execOp, ho, hx, hy, Sem.run_bind, hg, hrun, Result.andThen_ok, Sem.run_pure]⟩)
/-- a history and a crossing, each in a box -/
theorem two_boxes {w X1 X2 : World} {Z m : List Int} {ao va : Option Addr} {n k vn vc q5 q6 : Nat} {now cu : Int} (hZ : Z.length = 27) (hm : m.length = 27) (hX1 : w.alloc (.cells #[.slice none 0 0, .int .i64 0] 24) = X1) (hX2 : X1.alloc (.cells (cxa (.slice none 0 0) 0 Z) 50) = X2) (hq5 : w.heap.size = q5) (hq6 : X1.heap.size = q6) :
    X2.cell? ⟨q5, 0, none⟩ = some (.slice none 0 0) ∧ X2.cell? ⟨q5, 1, none⟩ = some (.int .i64 0) ∧ (∀ j, X2.frozen? ⟨q5, j, none⟩ = false) ∧ ((X2.setCell ⟨q5, 0, none⟩ (.slice ao n k)).setCell ⟨q5, 1, none⟩ (.int .i64 now)).there q6 0 29 ∧
    Blk (((X2.setCell ⟨q5, 0, none⟩ (.slice ao n k)).setCell ⟨q5, 1, none⟩ (.int .i64 now)).setCells q6 0 (cx (.slice va vn vc) cu m)) q5 24 #[.slice ao n k, .int .i64 now] ∧
    Blk (((X2.setCell ⟨q5, 0, none⟩ (.slice ao n k)).setCell ⟨q5, 1, none⟩ (.int .i64 now)).setCells q6 0 (cx (.slice va vn vc) cu m)) q6 50 (cxa (.slice va vn vc) cu m) ∧ q5 ≠ q6 ∧
    Below w.heap.size w (((X2.setCell ⟨q5, 0, none⟩ (.slice ao n k)).setCell ⟨q5, 1, none⟩ (.int .i64 now)).setCells q6 0 (cx (.slice va vn vc) cu m)) := by
  subst hX1 hX2 hq5 hq6
  have e1 := (Blk.new w 24 #[.slice none 0 0, .int .i64 0]).keep (bAlloc (Below.refl _ _) (.cells (cxa (.slice none 0 0) 0 Z) 50))
  have e2 := Blk.new (w.alloc (.cells #[.slice none 0 0, .int .i64 0] 24)) 50 (cxa (.slice none 0 0) 0 Z)
  have hne : w.heap.size ≠ (w.alloc (.cells #[.slice none 0 0, .int .i64 0] 24)).heap.size := by rw [World.size_alloc]; omega
  have f1 := set24 (v' := .slice ao n k) (u' := .int .i64 now) e1
  have f2 := (e2.off hne.symm (j := 0) (.slice ao n k)).off hne.symm (j := 1) (.int .i64 now)
  refine ⟨e1.cell rfl, e1.cell rfl, e1.frozen, ?_, blk_setCells_off hne _ _ f1, put_blk (old := cx (.slice none 0 0) 0 Z) (by rw [cx_len hZ, cx_len hm]) f2, hne, ?_⟩
  · have := there_blk (cs := cx (.slice none 0 0) 0 Z) f2; rwa [cx_len hZ] at this
  · refine below_setCells (by rw [World.size_alloc]; omega) _ _ ?_
    exact ((bAlloc (bAlloc (Below.refl _ _) _) _).setCell (Nat.le_refl _) _).setCell (Nat.le_refl _) _
/-- a crossing's cells -/
structure Cb (W : World) (q : Nat) (va : Option Addr) (vn vc : Nat) (cu : Int) (m : List Int) : Prop where
  b : Blk W q 50 (cxa (.slice va vn vc) cu m)
  c0 : W.cell? ⟨q, 0, none⟩ = some (.slice va vn vc)
  c1 : W.cell? ⟨q, 1, none⟩ = some (.int .i64 cu)
  mr : W.rangeAt q 2 (ml m)
  t : m.length = 27 → W.there q 0 29
theorem Cb.of {W : World} {q vn vc : Nat} {va : Option Addr} {cu : Int} {m : List Int} (h : Blk W q 50 (cxa (.slice va vn vc) cu m)) : Cb W q va vn vc cu m := by
  have h0 := range_blk (cs := cx (.slice va vn vc) cu m) h
  refine ⟨h, ?_, ?_, ?_, fun hm => ?_⟩
  · have := h0 0 _ rfl; simpa using this
  · have := h0 1 _ rfl; simpa using this
  · have := range_part (pre := [.slice va vn vc, .int .i64 cu]) (mid := ml m) (post := []) (by simpa [cx] using h0)
    simpa using this
  · have := there_blk (cs := cx (.slice va vn vc) cu m) h; rwa [cx_len hm] at this
theorem Cb.keep {W W' : World} {q vn vc : Nat} {va : Option Addr} {cu : Int} {m : List Int} (h : Cb W q va vn vc cu m) (hb : Below W.heap.size W W') : Cb W' q va vn vc cu m := Cb.of (h.b.keep hb)
end Go.Proofs.Ytaahklapoppgaaa
