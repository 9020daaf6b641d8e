/- What Add is handed and what it gives, well or not; a history in a box. -/
import Derived.Test.YtaahklapoppgaaaQm26
namespace Go.Proofs.Ytaahklapoppgaaa
open Go.RowKit

set_option maxRecDepth 8000
/-- what Add is handed, as cells -/
def ad (v : Value) (c : Int) (A M : List Int) : List Value := v :: .int .i64 c :: (ml A ++ ml M)
def ada (v : Value) (c : Int) (A M : List Int) : Array Value := (ad v c A M).toArray
theorem ad_len {v : Value} {c : Int} {A M : List Int} (hA : A.length = 27) (hM : M.length = 27) : (ad v c A M).length = 56 := by simp [ad, ml_len, hA, hM]
structure Ax (W : World) (B : Nat) (v : Value) (c : Int) (A M : List Int) : Prop where
  blk : Blk W B 43 (ada v c A M)
  c0 : W.cell? ⟨B, 0, none⟩ = some v
  c1 : W.cell? ⟨B, 1, none⟩ = some (.int .i64 c)
  m1 : W.rangeAt B 2 (ml A)
  m2 : W.rangeAt B 29 (ml M)
theorem Ax.of {W : World} {B : Nat} {v : Value} {c : Int} {A M : List Int} (h : Blk W B 43 (ada v c A M)) (hA : A.length = 27) : Ax W B v c A M := by
  have h0 := range_blk (cs := ad v c A M) h
  refine ⟨h, ?_, ?_, ?_, ?_⟩
  · have := h0 0 _ rfl; simpa using this
  · have := h0 1 _ rfl; simpa using this
  · have := range_part (pre := [v, .int .i64 c]) (mid := ml A) (post := ml M) (by simpa [ad] using h0)
    simpa using this
  · have := range_part (pre := [v, .int .i64 c] ++ ml A) (mid := ml M) (post := []) (by simpa [ad] using h0)
    simpa [ml_len, hA] using this
theorem Ax.keep {W W' : World} {B : Nat} {v : Value} {c : Int} {A M : List Int} (h : Ax W B v c A M) (hb : Below W.heap.size W W') : Ax W' B v c A M := ⟨h.blk.keep hb, cell_keep h.c0 hb, cell_keep h.c1 hb, range_keep h.m1 hb, range_keep h.m2 hb⟩
/-- what Add gives, well or not -/
noncomputable def adD (z : Int) (D : List Nd) : List Nd := if z = 0 then D else []
noncomputable def adN (z now : Int) : Int := if z = 0 then now else 0
def AdQ (z : Int) (D : List Nd) (now : Int) (w : World) (e : Ending) (w' : World) : Prop := ∃ ao n k H, e = .returned (.tuple #[.agg #[.slice ao n k, .int .i64 now], .int .i64 z]) ∧ Grz w' ao H ∧ H.length = n ∧ n ≤ k ∧ H.map Nr.d = D ∧ n ≤ 5000 ∧ Below w.heap.size w w'
theorem grz_nil (W : World) : Grz W none [] := ⟨fun k r hk => by simp at hk, fun k r hk => by simp at hk⟩
theorem AdQ.of {z : Int} {D : List Nd} {now : Int} {w w' : World} {e : Ending} (h : AdP z D now w e w') (hD : z = 0 → D.length ≤ 5000) : AdQ z (adD z D) (adN z now) w e w' := by
  by_cases hz : z = 0
  · obtain ⟨B, H, X, S, k, rfl, h1, h2, h3, h4⟩ := h.1 hz
    have e1 : adD z D = D := if_pos hz
    have e2 : adN z now = now := if_pos hz
    rw [e1, e2, hz]
    have hl : H.length = D.length := by rw [← h1, List.length_map]
    exact ⟨_, _, _, H, rfl, h3.grz, rfl, h2, h1, by have := hD hz; omega, h4⟩
  · obtain ⟨rfl, h4⟩ := h.2 hz
    have e1 : adD z D = [] := if_neg hz
    have e2 : adN z now = 0 := if_neg hz
    rw [e1, e2]
    exact ⟨none, 0, 0, [], rfl, grz_nil _, rfl, Nat.le_refl _, rfl, by omega, h4⟩
theorem addE_len {D : List Nd} {now : Int} {x : Nd} (h : addE D now x = 0) : (addG D now x).length ≤ 5000 := by
  have hr : Right D now := by
    by_cases hr : Right D now
    · exact hr
    · unfold addE at h; rw [ti_f hr] at h; exact absurd h (by decide)
  have := hr.sz.1
  unfold addG
  rw [List.length_append, List.length_set]
  show D.length + 1 ≤ 5000
  omega
/-- a history in a box -/
structure Bx (W : World) (q : Nat) (ao : Option Addr) (n k : Nat) (now : Int) (H : List Nr) : Prop where
  b : Blk W q 24 #[.slice ao n k, .int .i64 now]
  g : Grz W ao H
theorem Bx.keep {W W' : World} {q n k : Nat} {ao : Option Addr} {now : Int} {H : List Nr} (h : Bx W q ao n k now H) (hb : Below W.heap.size W W') : Bx W' q ao n k now H := ⟨h.b.keep hb, h.g.keep hb⟩
theorem Bx.put {w W : World} {q n k : Nat} {ao : Option Addr} {now : Int} {H : List Nr} (hW : w.alloc (.cells #[.slice none 0 0, .int .i64 0] 24) = W) (hq : w.heap.size = q) (hg : Grz w ao H) : Bx ((W.setCell ⟨q, 0, none⟩ (.slice ao n k)).setCell ⟨q, 1, none⟩ (.int .i64 now)) q ao n k now H ∧ Below w.heap.size w ((W.setCell ⟨q, 0, none⟩ (.slice ao n k)).setCell ⟨q, 1, none⟩ (.int .i64 now)) := by
  subst hW hq
  have hb : Below w.heap.size w (((w.alloc (.cells #[.slice none 0 0, .int .i64 0] 24)).setCell ⟨w.heap.size, 0, none⟩ (.slice ao n k)).setCell ⟨w.heap.size, 1, none⟩ (.int .i64 now)) := ((bAlloc (Below.refl _ _) _).setCell (Nat.le_refl _) _).setCell (Nat.le_refl _) _
  exact ⟨⟨set24 (Blk.new w 24 _), hg.keep hb⟩, hb⟩
theorem box24_facts {w W : World} {q : Nat} (hW : w.alloc (.cells #[.slice none 0 0, .int .i64 0] 24) = W) (hq : w.heap.size = q) : W.cell? ⟨q, 0, none⟩ = some (.slice none 0 0) ∧ W.cell? ⟨q, 1, none⟩ = some (.int .i64 0) ∧ W.frozen? ⟨q, 0, none⟩ = false ∧ W.frozen? ⟨q, 1, none⟩ = false := by
  subst hW hq
  have := Blk.new w 24 #[.slice none 0 0, .int .i64 0]
  exact ⟨this.cell rfl, this.cell rfl, this.frozen _, this.frozen _⟩
end Go.Proofs.Ytaahklapoppgaaa
