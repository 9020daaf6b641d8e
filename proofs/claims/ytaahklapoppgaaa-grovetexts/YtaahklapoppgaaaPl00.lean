/- What no call takes away; what is answered is right (pure). -/
import Derived.Test.YtaahklapoppgaaaPo04
namespace Go.Proofs.Ytaahklapoppgaaa
open Go.RowKit

set_option maxRecDepth 8000
/-- no change is taken away, none has another parent, other edits or another cursor -/
structure Sta (D E : List Nd) : Prop where
  len : D.length ≤ E.length
  le1 : E.length ≤ D.length + 1
  sk : ∀ j, j < D.length → sk (at' E j) = sk (at' D j)
/-- all marks of a history are fine -/
def AllFin (D : List Nd) : Prop := ∀ i, 0 < i → i < D.length → Fin (at' D i).was ∧ Fin (at' D i).made
theorem sta_add {D : List Nd} {now : Int} {x : Nd} : Sta D (addG D now x) := by
  unfold addG
  refine ⟨by simp, by simp, fun j hj => ?_⟩
  rw [at'_app, if_pos (by rw [List.length_set]; exact hj)]
  exact sk_set (by rfl) j
theorem sta_of {D : List Nd} {s : Wk} (hl : s.G.length = D.length) (hs : ∀ j, sk (at' s.G j) = sk (at' D j)) : Sta D s.G := ⟨by omega, by omega, fun j _ => hs j⟩
theorem AllFin.bw {D : List Nd} {now : Int} {m : List Int} (h : AllFin D) (hm : Fin m) : Bw 1099511627776 (Wk.new D now m) := ⟨hm, fun i h0 hi => h i h0 hi⟩
/-- what an answer of the three crossings is held against -/
structure Lq (D : List Nd) (now : Int) (m : List Int) (z : Int) (s : Wk) : Prop where
  r : z = 0 → Right D now
  st : z = 0 → Sta D s.G
  f : z = 0 → Fin m → AllFin D → Right s.G s.now
theorem lq_undo {D : List Nd} {now : Int} {m : List Int} (hq : EdG 1048576 D) : Lq D now m (undE D now m) ((Wk.new D now m).up now.toNat) := by
  refine ⟨fun h => (undE_zero h).1, fun _ => sta_of (Wk.up_len _ _) (Wk.up_sk _ _), fun h hf ha => ?_⟩
  obtain ⟨hr, -, h0⟩ := undE_zero h
  obtain ⟨i, rfl⟩ : ∃ i : Nat, now = (i : Int) := ⟨now.toNat, by have := hr.sz.2; omega⟩
  rw [Int.toNat_natCast]
  have hi : i < D.length := by have := hr.sz.2; omega
  have hb := ha.bw (now := (i : Int)) hf
  have he := hr.edb hq (by omega) hi
  have h1 := hb.up (by omega) hi he (by omega) (by omega)
  exact right_up (s := Wk.new D (i : Int) m) hr rfl (by omega) hf.mok h1.m.mok
theorem lq_redo {D : List Nd} {now : Int} {m : List Int} (hq : EdG 1048576 D) : Lq D now m (redE D now m) ((Wk.new D now m).down (at' D now.toNat).nxt.toNat) := by
  refine ⟨fun h => (redE_zero h).1, fun _ => sta_of (Wk.down_len _ _) (Wk.down_sk _ _), fun h hf ha => ?_⟩
  obtain ⟨hr, -, h0⟩ := redE_zero h
  obtain ⟨p, rfl⟩ : ∃ p : Nat, now = (p : Int) := ⟨now.toNat, by have := hr.sz.2; omega⟩
  rw [Int.toNat_natCast] at h0 ⊢
  have hpl : p < D.length := by have := hr.sz.2; omega
  obtain ⟨k, hk, hkl, hkp⟩ : ∃ k : Nat, (at' D p).nxt = (k : Int) ∧ k < D.length ∧ (at' D k).par = (p : Int) := by
    rcases hr.lds p _ (at'_some hpl) with h | ⟨k', h1, n, h2, h3⟩
    · exact absurd h h0
    · exact ⟨k', h1, (List.getElem?_eq_some_iff.1 h2).1, by rw [at'_eq h2]; exact h3⟩
  rw [hk] at h0 ⊢
  rw [Int.toNat_natCast]
  have hb := ha.bw (now := (p : Int)) hf
  have he := hr.edb hq (by omega) hkl
  have h1 := hb.down (by omega) hkl he (by omega) (by omega)
  exact right_down (s := Wk.new D (p : Int) m) hr (by omega) hkl (by show (p : Int) = ((pr D k : Nat) : Int); unfold pr; rw [hkp]; rfl) hf.mok h1.m.mok
theorem goE_zero {D : List Nd} {now tt : Int} {m : List Int} (h : goE D now tt m = 0) : Right D now ∧ MOk m ∧ 0 ≤ tt ∧ tt < (D.length : Int) := by
  unfold goE at h
  by_cases h1 : Right D now
  · rw [ti_t h1] at h
    by_cases h2 : MOk m
    · rw [ti_t h2] at h
      by_cases h3 : tt < 0
      · rw [ti_t h3] at h; exact absurd h (by decide)
      · rw [ti_f h3] at h
        by_cases h4 : (D.length : Int) ≤ tt
        · rw [ti_t h4] at h; exact absurd h (by decide)
        · exact ⟨h1, h2, by omega, by omega⟩
    · rw [ti_f h2] at h; exact absurd h (by decide)
  · rw [ti_f h1] at h; exact absurd h (by decide)
theorem lq_go {D : List Nd} {now tt : Int} {m : List Int} (hq : EdG 1048576 D) : Lq D now m (goE D now tt m) ((Wk.new D now m).go (pathU D now.toNat tt.toNat) (pathD D now.toNat tt.toNat)) := by
  refine ⟨fun h => (goE_zero h).1, fun _ => sta_of (by unfold Wk.go; rw [foldD_len, foldU_len]; rfl) (fun j => by unfold Wk.go; rw [foldD_sk, foldU_sk]; rfl), fun h hf ha => ?_⟩
  obtain ⟨hr, -, h0, h1⟩ := goE_zero h
  exact (go_right (j := tt.toNat) hr (by omega) hq (ha.bw hf) (by omega) (by omega)).1
theorem addE_zero {D : List Nd} {now : Int} {x : Nd} (h : addE D now x = 0) : Right D now ∧ Sound x ∧ D.length ≤ 4096 := by
  unfold addE at h
  by_cases h1 : Right D now
  · rw [ti_t h1] at h
    by_cases h2 : Sound x
    · rw [ti_t h2] at h
      by_cases h3 : 4096 < D.length
      · rw [ti_t h3] at h; exact absurd h (by decide)
      · exact ⟨h1, h2, by omega⟩
    · rw [ti_f h2] at h; exact absurd h (by decide)
  · rw [ti_f h1] at h; exact absurd h (by decide)
end Go.Proofs.Ytaahklapoppgaaa
