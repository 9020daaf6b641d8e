/- The law's edit; the program's calls as awake meets them. -/
import Derived.Test.YtaahklapoppgaaaQm27
import Derived.Test.YtaahklapoppgaaaQm24
import Derived.Test.YtaahklapoppgaaaQm28
import Derived.Test.YtaahklapoppgaaaQm29
import Derived.Laws.IdiomStrings
namespace Go.Proofs.Ytaahklapoppgaaa
open Go.RowKit

set_option maxRecDepth 8000
/-- the room that a text out of a string is given -/
def capW (l : List UInt8) (W : World) : Nat := grownCap W l.length 0 5
def rowW (l : List UInt8) (W : World) : Obj := .cells (bytesRow ⟨l.toArray⟩ (capW l W)) 5 ((bytesRow ⟨l.toArray⟩ (capW l W)).size, (bytesRow ⟨l.toArray⟩ (capW l W)).size + 1)
theorem cv_in (l : List UInt8) (W : World) : (convert 9 70 (.string ⟨l.toArray⟩)).run Try.prog W = .ok (.slice (some ⟨W.heap.size, 0, none⟩) l.length (capW l W)) (W.drew.alloc (rowW l W)) := by
  have h := run_bytes_of_string (P := Try.prog) W 9 70 5 ⟨l.toArray⟩ Try.underlying9 Try.underlying70 Try.underlying5
  have e : (⟨l.toArray⟩ : ByteArray).size = l.length := by simp [ByteArray.size]
  rw [e] at h
  exact h
theorem tx_in {l : List UInt8} {W W' : World} {g : Nat} (hl : l.length ≤ 1000) (hh : W'.heap[g]? = some (rowW l W)) : Tx W' (some ⟨g, 0, none⟩) l.length (capW l W) l := by
  refine ⟨rfl, grownCap_ge _ _ _ _, by omega, fun e => (by cases e), fun a ha j hj => ?_⟩
  injection ha with ha
  subst ha
  rw [add_none, Nat.zero_add]
  rw [cell_of_row _ _ j _ 5 _ hh]
  simp [bytesRow, Array.getElem?_append, hj, at8]
/-- the one edit that puts c in -/
def ed1 (c : UInt8) : List Ed := [⟨0, [], [c]⟩]
def EdP (c : UInt8) (w : World) (e : Ending) (w' : World) : Prop := ∃ (g : Nat) (E : List Er), e = .returned (.slice (some ⟨g, 0, none⟩) 1 1) ∧ E.map Er.d = ed1 c ∧ E.length = 1 ∧ Edz w' (some ⟨g, 0, none⟩) E ∧ Below w.heap.size w w'
set_option maxHeartbeats 4000000 in
theorem ledit_any (c : UInt8) (w : World) : Calls Try.prog 39 #[.string ⟨[c].toArray⟩] w fun e w' => EdP c w e w' := by
  have hcv := cv_in [c] w
  obtain ⟨k, hk⟩ : ∃ k, capW [c] w = k := ⟨_, rfl⟩
  rw [hk] at hcv
  obtain ⟨W1, hW1⟩ : ∃ x, w.drew.alloc (rowW [c] w) = x := ⟨_, rfl⟩
  have T1 : Hid (Tx W1 (some ⟨w.heap.size, 0, none⟩) 1 k [c]) := by unfold Hid; rw [← hW1, ← hk]; exact tx_in (l := [c]) (by simp) (heap_alloc_new w.drew _)
  have L1 : Hid (Below w.heap.size w W1) := by unfold Hid; rw [← hW1]; exact bAlloc (Below.refl _ _).drew _
  obtain ⟨b, hb⟩ : ∃ b, w.heap.size = b := ⟨_, rfl⟩
  obtain ⟨str, hstr⟩ : ∃ x : ByteArray, (⟨[c].toArray⟩ : ByteArray) = x := ⟨_, rfl⟩
  rw [hb] at T1 hcv
  rw [hW1, hstr] at hcv
  rw [hstr]
  clear hstr hW1 hk
  dsimp only [List.length_singleton] at hcv
  go_enter Try.func39, Try.ntmps39
  go_wp2
  go_ret
  have Y0 := Blk.new W1 77 #[.int .i64 0, .slice none 0 0, .slice (some ⟨b, 0, none⟩) 1 k]
  have B2 := bAlloc (Below.refl W1.heap.size W1) (.cells #[.int .i64 0, .slice none 0 0, .slice (some ⟨b, 0, none⟩) 1 k] 77)
  refine ⟨_, [⟨0, none, 0, 0, [], some ⟨b, 0, none⟩, 1, k, [c]⟩], rfl, rfl, rfl, ⟨fun j r hj => ?_, fun j r hj => ?_⟩, bT L1.out B2⟩
  · match j, hj with
    | 0, hj => simp at hj; subst hj; exact ⟨_, 0, rfl, Y0.cell rfl, Y0.cell rfl, Y0.cell rfl⟩
    | j + 1, hj => simp at hj
  · match j, hj with
    | 0, hj => simp at hj; subst hj; exact ⟨tx_nil _, T1.out.keep B2, by dsimp only; omega, by dsimp only; omega⟩
    | j + 1, hj => simp at hj
/-- awake's histories -/
def aX (c : UInt8) : Nd := ⟨0, 0, ed1 c, 0, zm, zm⟩
def aD1 : List Nd := addG [zn] 0 (aX 97)
def aS1 : Wk := (Wk.new aD1 1 zm).up 1
def aD2 : List Nd := addG aS1.G 0 (aX 98)
def aS3 : Wk := (Wk.new aD2 2 zm).go (pathU aD2 2 1) (pathD aD2 2 1)
theorem mok_zm : MOk zm := fun x hx => by simp [zm] at hx; omega
theorem aX_sound (c : UInt8) : Sound (aX c) := by
  refine ⟨⟨by simp [aX], by simp [aX]⟩, by simp [aX, ed1], fun d hd => ?_, mok_zm, mok_zm⟩
  simp [aX, ed1] at hd
  subst hd
  exact ⟨⟨by dsimp only; omega, by dsimp only; omega⟩, by simp⟩
theorem a_ok1 : addE [zn] 0 (aX 97) = 0 := by unfold addE; rw [ti_t right_new, ti_t (aX_sound 97), ti_f (by simp)]
theorem a_rt1 : Right aD1 1 := right_add right_new (aX_sound 97) rfl rfl (by simp)
theorem a_ok2 : undE aD1 1 zm = 0 := by unfold undE; rw [ti_t a_rt1, ti_t mok_zm, ti_f (by decide)]
theorem a_now1 : aS1.now = 0 := by decide +kernel
theorem a_e1 : aS1.E = [⟨0, [97], []⟩] := by rfl
theorem a_m1 : aS1.m = zm := by decide +kernel
theorem a_len1 : aS1.G.length = 2 := by decide +kernel
theorem a_rt2 : Right aS1.G 0 := by
  have h := right_up (s := Wk.new aD1 1 zm) (i := 1) a_rt1 rfl (by omega) mok_zm (by show MOk aS1.m; rw [a_m1]; exact mok_zm)
  have e : (Wk.up (Wk.new aD1 1 zm) 1).now = 0 := a_now1
  rw [e] at h
  exact h
theorem a_ok3 : addE aS1.G 0 (aX 98) = 0 := by unfold addE; rw [ti_t a_rt2, ti_t (aX_sound 98), ti_f (by rw [a_len1]; omega)]
theorem a_rt3 : Right aD2 2 := by
  have h := right_add a_rt2 (aX_sound 98) rfl rfl (by rw [a_len1]; omega)
  rw [a_len1] at h
  exact h
theorem a_len2 : aD2.length = 3 := by decide +kernel
theorem a_ok4 : goE aD2 2 1 zm = 0 := by unfold goE; rw [ti_t a_rt3, ti_t mok_zm, ti_f (by decide), ti_f (by rw [a_len2]; decide)]
theorem a_now3 : aS3.now = 1 := by decide +kernel
theorem a_len3 : aS3.G.length = 3 := by decide +kernel
theorem a_par3 : (at' aS3.G 2).par = 0 := by decide +kernel
theorem a_nxt3 : (at' aS3.G 0).nxt = 1 := by decide +kernel
theorem a_big : ∀ d ∈ aD2, d.ed.length ≤ 1048576 := by decide +kernel
/-- a history that lies in a block of its own -/
def Hs (D : List Nd) (n : Nat) (W : World) (B k : Nat) : Prop := ∃ H : List Nr, H.map Nr.d = D ∧ H.length = n ∧ n ≤ k ∧ Grz W (some ⟨B, 0, none⟩) H
theorem Hs.keep {D : List Nd} {n B k : Nat} {W W' : World} (h : Hs D n W B k) (hb : Below W.heap.size W W') : Hs D n W' B k := by
  obtain ⟨H, h1, h2, h3, h4⟩ := h
  exact ⟨H, h1, h2, h3, h4.keep hb⟩
/-- the same, in a stretch of blocks -/
def HsL (lo hi : Nat) (D : List Nd) (n : Nat) (W : World) (B k : Nat) : Prop := ∃ (H : List Nr) (X : List Value) (S : List (Nat × Nat)), H.map Nr.d = D ∧ H.length = n ∧ n ≤ k ∧ Hst lo hi W B H X S
theorem HsL.hs {lo hi n B k : Nat} {D : List Nd} {W : World} (h : HsL lo hi D n W B k) : Hs D n W B k := by
  obtain ⟨H, X, S, h1, h2, h3, h4⟩ := h
  exact ⟨H, h1, h2, h3, h4.grz⟩
theorem HsL.keep {lo hi n B k : Nat} {D : List Nd} {W W' : World} (h : HsL lo hi D n W B k) (hb : Below W.heap.size W W') : HsL lo hi D n W' B k := by
  obtain ⟨H, X, S, h1, h2, h3, h4⟩ := h
  exact ⟨H, X, S, h1, h2, h3, h4.keep hb⟩
theorem HsL.kept {lo hi n B k a b : Nat} {D : List Nd} {W W' : World} (h : HsL lo hi D n W B k) (hk : Kept a b W W') (hd : b ≤ lo ∨ hi ≤ a) : HsL lo hi D n W' B k := by
  obtain ⟨H, X, S, h1, h2, h3, h4⟩ := h
  exact ⟨H, X, S, h1, h2, h3, h4.kept hk hd⟩
def NeP (w : World) (e : Ending) (w' : World) : Prop := ∃ B, e = .returned (.agg #[.slice (some ⟨B, 0, none⟩) 1 1, .int .i64 0]) ∧ Hs [zn] 1 w' B 1 ∧ Below w.heap.size w w'
theorem newA (w : World) : Calls Try.prog 12 #[] w fun e w' => NeP w e w' := by
  refine (new_any w).mono ?_
  rintro e w' ⟨B, H, X, S, rfl, hH, -, hst, hb⟩
  have hl : H.length = 1 := by have := congrArg List.length hH; simpa using this
  exact ⟨B, rfl, ⟨H, hH, hl, Nat.le_refl _, hst.grz⟩, hb⟩
def AddP (D : List Nd) (n : Nat) (now : Int) (w : World) (e : Ending) (w' : World) : Prop := ∃ B k, e = .returned (.tuple #[.agg #[.slice (some ⟨B, 0, none⟩) n k, .int .i64 now], .int .i64 0]) ∧ HsL w.heap.size w'.heap.size D n w' B k ∧ Below w.heap.size w w'
theorem addA {D : List Nd} {n B k g : Nat} {c : UInt8} {E : List Er} {W : World} (hH : Hs D n W B k) (hr : Right D 0) (hn : n ≤ 4096) (hE : Edz W (some ⟨g, 0, none⟩) E) (he : E.map Er.d = ed1 c) (hl : E.length = 1) :
    Calls Try.prog 20 #[.agg #[.slice (some ⟨B, 0, none⟩) n k, .int .i64 0], .slice (some ⟨g, 0, none⟩) 1 1, .int .i64 0, .agg (mk zm), .agg (mk zm)] W fun e w' => AddP (addG D 0 (aX c)) (n + 1) (n : Int) W e w' := by
  obtain ⟨H, h1, h2, h3, h4⟩ := hH
  refine (add_walk zr rfl z63 (some ⟨B, 0, none⟩) n k 0 H (some ⟨g, 0, none⟩) 1 1 E 0 zm zm W h4 h2 h3 ⟨hE, hl, by dsimp only; omega, (fun h => by cases h), by dsimp only; omega, mw_zm, mw_zm⟩).mono ?_
  rintro e w' ⟨hy, -⟩
  rw [h1, he] at hy
  have hz : addE D 0 (aX c) = 0 := by
    have hlD : D.length = n := by rw [← h1, List.length_map, h2]
    unfold addE; rw [ti_t hr, ti_t (aX_sound c), ti_f (by rw [hlD]; omega)]
  obtain ⟨B', H', X, S, k', rfl, hH', hk, hst, hb⟩ := hy hz
  have hl' : H'.length = n + 1 := by
    have := congrArg List.length hH'
    rw [List.length_map] at this
    rw [this]
    unfold addG
    rw [List.length_append, List.length_set, ← h1, List.length_map, h2]; rfl
  rw [hl'] at hk ⊢
  exact ⟨B', k', rfl, ⟨H', X, S, hH', hl', hk, hst⟩, hb⟩
/-- a crossing that went well, at a history that lies in memory -/
def CroP (s : Wk) (n : Nat) (w : World) (e : Ending) (w' : World) : Prop := ∃ B k va vn vc F, e = .returned (.tuple #[.agg #[.slice (some ⟨B, 0, none⟩) n k, .int .i64 s.now], .agg (cxa (.slice va vn vc) s.cur s.m), .int .i64 0]) ∧ Hs s.G n w' B k ∧ Edz w' va F ∧ F.map Er.d = s.E ∧ F.length = vn ∧ s.m.length = 27 ∧ Below w.heap.size w w'
theorem CroP.of {s : Wk} {n : Nat} {w w' : World} {e : Ending} (h : WkP s w e w') (hn : s.G.length = n) : CroP s n w e w' := by
  obtain ⟨lo, p, B, k, H, X, S, va, vn, vc, F, rfl, h1, h2, h3, h4, h5, h6, h7, h8, h9, h10⟩ := h
  have hl : H.length = n := by have := congrArg List.length h1; rw [List.length_map] at this; omega
  rw [hl] at h8 ⊢
  exact ⟨B, k, va, vn, vc, F, rfl, ⟨H, h1, hl, h8, h4.grz⟩, h5.ez, h2, h6, h7.len, h10⟩
theorem undoA {W : World} {B k : Nat} (hH : Hs aD1 2 W B k) : Calls Try.prog 24 #[.agg #[.slice (some ⟨B, 0, none⟩) 2 k, .int .i64 1], .agg (mk zm)] W fun e w' => CroP aS1 2 W e w' := by
  obtain ⟨H, h1, h2, h3, h4⟩ := hH
  refine (undo_walk zm rfl z50 b50 (some ⟨B, 0, none⟩) 2 k 1 H zm W h4 h2 h3 mw_zm).mono ?_
  rintro e w' ⟨hy, -⟩
  rw [h1] at hy
  exact CroP.of (hy a_ok2) a_len1
theorem goA {W : World} {B k : Nat} (hH : Hs aD2 3 W B k) : Calls Try.prog 26 #[.agg #[.slice (some ⟨B, 0, none⟩) 3 k, .int .i64 2], .int .i64 1, .agg (mk zm)] W fun e w' => CroP aS3 3 W e w' := by
  obtain ⟨H, h1, h2, h3, h4⟩ := hH
  refine (go_walk zm rfl z50 b50 (some ⟨B, 0, none⟩) 3 k 2 1 H zm W h4 h2 h3 mw_zm (by rw [h1]; exact a_big)).mono ?_
  rintro e w' ⟨hy, -⟩
  rw [h1] at hy
  exact CroP.of (hy a_ok4) a_len3
end Go.Proofs.Ytaahklapoppgaaa

