/- The contracts of addbuf.sound and of quoinref01.Sound: both answer whether a span is sound, for every span. -/
import Derived.Test.YtmhpeppbhjpkiaaGreatRows
import Derived.WalkKit
import Derived.WalkSpells
import Derived.WalkLawsBesides
import Derived.Outline
import Derived.RegionTactic
import Derived.BigRegion
namespace Go.Proofs.YtmhpeppbhjpkiaaGreat.Ab
open Go.RowKit

/-- A span that the document calls sound. -/
def sndB (s o l : Int) : Bool := decide ((s = 0 ∨ s = 1) ∧ 0 ≤ o ∧ 0 ≤ l ∧ o + l ≤ 4611686018427387904)

theorem ret_bool {a b : Bool} (h : a = b) : Ending.returned (.bool a) = .returned (.bool b) := by rw [h]

set_option maxHeartbeats 400000 in
theorem sound_any (s o l : Int) (w : World) (h1 : -9223372036854775808 ≤ l) (h2 : l ≤ 9223372036854775807) :
    Calls Tryz.prog 119 #[.agg #[.int .i64 s, .int .i64 o, .int .i64 l]] w fun e w' => e = .returned (.bool (sndB s o l)) ∧ w' = w.alloc (.cells #[.int .i64 s, .int .i64 o, .int .i64 l] 57) := by
  go_enter Tryz.func119, Tryz.ntmps119
  go_wp2
  all_goals go_ret
  all_goals (try subst_vars)
  all_goals refine ⟨ret_bool ?_, rfl⟩
  all_goals (rw [Bool.eq_iff_iff]; unfold sndB; simp only [decide_eq_true_eq]; first | omega | (simp; done) | (simp; omega))

end Go.Proofs.YtmhpeppbhjpkiaaGreat.Ab

/- The contracts of addbuf.Joins and of quoinref01.Joins: both answer the span that two neighbours make, for every two spans. -/
namespace Go.Proofs.YtmhpeppbhjpkiaaGreat.Ab
open Go.RowKit

/-- Two sound spans of one buffer, the second right behind the first. -/
def jnB (s o l s' o' l' : Int) : Bool := sndB s o l && sndB s' o' l' && decide (s = s') && decide (o' = o + l)

theorem snd_bd {s o l : Int} (h : sndB s o l = true) : 0 ≤ o ∧ 0 ≤ l ∧ o + l ≤ 4611686018427387904 := by
  unfold sndB at h; simp only [decide_eq_true_eq] at h; omega

theorem jn_parts {s o l s' o' l' : Int} (h : jnB s o l s' o' l' = true) : sndB s o l = true ∧ sndB s' o' l' = true ∧ s = s' ∧ o' = o + l := by
  unfold jnB at h; simpa [and_assoc] using h

theorem jn_cases {s o l s' o' l' : Int} (h : jnB s o l s' o' l' = false) :
    sndB s o l = false ∨ (sndB s o l = true ∧ sndB s' o' l' = false) ∨ (sndB s o l = true ∧ sndB s' o' l' = true ∧ (s != s') = true) ∨ (sndB s o l = true ∧ sndB s' o' l' = true ∧ s = s' ∧ (o' != o + l) = true) := by
  unfold jnB at h
  cases h1 : sndB s o l <;> cases h2 : sndB s' o' l' <;> simp_all
  omega

theorem bAlloc {a w : World} (h : Below a.heap.size a w) (o : Obj) : Below a.heap.size a (w.alloc o) := h.alloc h.size o

set_option maxHeartbeats 400000 in
theorem joins_yes (s o l s' o' l' : Int) (w : World) (h : jnB s o l s' o' l' = true) :
    Calls Tryz.prog 118 #[.agg #[.int .i64 s, .int .i64 o, .int .i64 l], .agg #[.int .i64 s', .int .i64 o', .int .i64 l']] w fun e w' => e = .returned (.tuple #[.agg #[.int .i64 s, .int .i64 o, .int .i64 (l + l')], .bool true]) ∧ Below w.heap.size w w' := by
  obtain ⟨ha, hb, rfl, rfl⟩ := jn_parts h
  have ba := snd_bd ha
  have bb := snd_bd hb
  clear h
  go_enter Tryz.func118, Tryz.ntmps118
  go_wp2_with (go_at_call 119; refine (sound_any _ _ _ _ (by omega) (by omega)).mono ?_; rintro e w' ⟨rfl, rfl⟩)
  refine bodyPost_ret (v := .tuple #[.agg #[.int .i64 s, .int .i64 o, .int .i64 (l + l')], .bool true]) (by simp [results, Tryz.results118, go_sem]) rfl ⟨rfl, ?_⟩
  repeat (first | exact Below.refl _ _ | refine bAlloc ?_ _)

set_option maxHeartbeats 800000 in
theorem joins_no (s o l s' o' l' : Int) (w : World) (h1 : -9223372036854775808 ≤ l) (h2 : l ≤ 9223372036854775807) (h3 : -9223372036854775808 ≤ l') (h4 : l' ≤ 9223372036854775807) (h : jnB s o l s' o' l' = false) :
    Calls Tryz.prog 118 #[.agg #[.int .i64 s, .int .i64 o, .int .i64 l], .agg #[.int .i64 s', .int .i64 o', .int .i64 l']] w fun e w' => e = .returned (.tuple #[.agg #[.int .i64 0, .int .i64 0, .int .i64 0], .bool false]) ∧ Below w.heap.size w w' := by
  rcases jn_cases h with ha | ⟨ha, hb⟩ | ⟨ha, hb, hs⟩ | ⟨ha, hb, rfl, ho⟩
  all_goals clear h
  · go_enter Tryz.func118, Tryz.ntmps118
    go_wp2_with (go_at_call 119; refine (sound_any _ _ _ _ (by omega) (by omega)).mono ?_; rintro e w' ⟨rfl, rfl⟩)
    refine bodyPost_ret (v := .tuple #[.agg #[.int .i64 0, .int .i64 0, .int .i64 0], .bool false]) (by simp [results, Tryz.results118, go_sem]) rfl ⟨rfl, ?_⟩
    repeat (first | exact Below.refl _ _ | refine bAlloc ?_ _)
  · go_enter Tryz.func118, Tryz.ntmps118
    go_wp2_with (go_at_call 119; refine (sound_any _ _ _ _ (by omega) (by omega)).mono ?_; rintro e w' ⟨rfl, rfl⟩)
    refine bodyPost_ret (v := .tuple #[.agg #[.int .i64 0, .int .i64 0, .int .i64 0], .bool false]) (by simp [results, Tryz.results118, go_sem]) rfl ⟨rfl, ?_⟩
    repeat (first | exact Below.refl _ _ | refine bAlloc ?_ _)
  · go_enter Tryz.func118, Tryz.ntmps118
    go_wp2_with (go_at_call 119; refine (sound_any _ _ _ _ (by omega) (by omega)).mono ?_; rintro e w' ⟨rfl, rfl⟩)
    refine bodyPost_ret (v := .tuple #[.agg #[.int .i64 0, .int .i64 0, .int .i64 0], .bool false]) (by simp [results, Tryz.results118, go_sem]) rfl ⟨rfl, ?_⟩
    repeat (first | exact Below.refl _ _ | refine bAlloc ?_ _)
  · have ba := snd_bd ha
    go_enter Tryz.func118, Tryz.ntmps118
    go_wp2_with (go_at_call 119; refine (sound_any _ _ _ _ (by omega) (by omega)).mono ?_; rintro e w' ⟨rfl, rfl⟩)
    refine bodyPost_ret (v := .tuple #[.agg #[.int .i64 0, .int .i64 0, .int .i64 0], .bool false]) (by simp [results, Tryz.results118, go_sem]) rfl ⟨rfl, ?_⟩
    repeat (first | exact Below.refl _ _ | refine bAlloc ?_ _)

end Go.Proofs.YtmhpeppbhjpkiaaGreat.Ab

/- The contracts of addbuf.Cut and of quoinref01.Cut: both answer the two parts of a span, for every span and place. -/
namespace Go.Proofs.YtmhpeppbhjpkiaaGreat.Ab
open Go.RowKit

set_option maxHeartbeats 400000 in
theorem cut_span (s o l t : Int) (w : World) (h1 : -9223372036854775808 ≤ l) (h2 : l ≤ 9223372036854775807) (h : sndB s o l = false) :
    Calls Tryz.prog 78 #[.agg #[.int .i64 s, .int .i64 o, .int .i64 l], .int .i64 t] w fun e w' => e = .returned (.tuple #[.agg #[.int .i64 0, .int .i64 0, .int .i64 0], .agg #[.int .i64 0, .int .i64 0, .int .i64 0], .int .i64 10]) ∧ Below w.heap.size w w' := by
  go_enter Tryz.func78, Tryz.ntmps78
  go_wp2_with (go_at_call 119; refine (sound_any _ _ _ _ (by omega) (by omega)).mono ?_; rintro e w' ⟨rfl, rfl⟩)
  refine bodyPost_ret (v := .tuple #[.agg #[.int .i64 0, .int .i64 0, .int .i64 0], .agg #[.int .i64 0, .int .i64 0, .int .i64 0], .int .i64 10]) (by simp [results, Tryz.results78, go_sem]) rfl ⟨rfl, ?_⟩
  repeat (first | exact Below.refl _ _ | refine bAlloc ?_ _ | refine Below.drew ?_)

set_option maxHeartbeats 400000 in
theorem cut_low (s o l t : Int) (w : World) (h : sndB s o l = true) (ht : t < 0) :
    Calls Tryz.prog 78 #[.agg #[.int .i64 s, .int .i64 o, .int .i64 l], .int .i64 t] w fun e w' => e = .returned (.tuple #[.agg #[.int .i64 0, .int .i64 0, .int .i64 0], .agg #[.int .i64 0, .int .i64 0, .int .i64 0], .int .i64 2]) ∧ Below w.heap.size w w' := by
  have ba := snd_bd h
  go_enter Tryz.func78, Tryz.ntmps78
  go_wp2_with (go_at_call 119; refine (sound_any _ _ _ _ (by omega) (by omega)).mono ?_; rintro e w' ⟨rfl, rfl⟩)
  refine bodyPost_ret (v := .tuple #[.agg #[.int .i64 0, .int .i64 0, .int .i64 0], .agg #[.int .i64 0, .int .i64 0, .int .i64 0], .int .i64 2]) (by simp [results, Tryz.results78, go_sem]) rfl ⟨rfl, ?_⟩
  repeat (first | exact Below.refl _ _ | refine bAlloc ?_ _ | refine Below.drew ?_)

set_option maxHeartbeats 400000 in
theorem cut_high (s o l t : Int) (w : World) (h : sndB s o l = true) (ht : l < t) :
    Calls Tryz.prog 78 #[.agg #[.int .i64 s, .int .i64 o, .int .i64 l], .int .i64 t] w fun e w' => e = .returned (.tuple #[.agg #[.int .i64 0, .int .i64 0, .int .i64 0], .agg #[.int .i64 0, .int .i64 0, .int .i64 0], .int .i64 2]) ∧ Below w.heap.size w w' := by
  have ba := snd_bd h
  go_enter Tryz.func78, Tryz.ntmps78
  go_wp2_with (go_at_call 119; refine (sound_any _ _ _ _ (by omega) (by omega)).mono ?_; rintro e w' ⟨rfl, rfl⟩)
  refine bodyPost_ret (v := .tuple #[.agg #[.int .i64 0, .int .i64 0, .int .i64 0], .agg #[.int .i64 0, .int .i64 0, .int .i64 0], .int .i64 2]) (by simp [results, Tryz.results78, go_sem]) rfl ⟨rfl, ?_⟩
  repeat (first | exact Below.refl _ _ | refine bAlloc ?_ _ | refine Below.drew ?_)

set_option maxHeartbeats 400000 in
theorem cut_yes (s o l t : Int) (w : World) (h : sndB s o l = true) (ht0 : 0 ≤ t) (ht : t ≤ l) :
    Calls Tryz.prog 78 #[.agg #[.int .i64 s, .int .i64 o, .int .i64 l], .int .i64 t] w fun e w' => e = .returned (.tuple #[.agg #[.int .i64 s, .int .i64 o, .int .i64 t], .agg #[.int .i64 s, .int .i64 (o + t), .int .i64 (l - t)], .int .i64 0]) ∧ Below w.heap.size w w' := by
  have ba := snd_bd h
  go_enter Tryz.func78, Tryz.ntmps78
  go_wp2_with (go_at_call 119; refine (sound_any _ _ _ _ (by omega) (by omega)).mono ?_; rintro e w' ⟨rfl, rfl⟩)
  go_region
  all_goals go_wp2
  all_goals (refine bodyPost_ret (v := .tuple #[.agg #[.int .i64 s, .int .i64 o, .int .i64 t], .agg #[.int .i64 s, .int .i64 (o + t), .int .i64 (l - t)], .int .i64 0]) (by simp [results, Tryz.results78, go_sem]) rfl ⟨rfl, ?_⟩)
  all_goals (repeat (first | exact Below.refl _ _ | refine bAlloc ?_ _ | refine Below.drew ?_))

end Go.Proofs.YtmhpeppbhjpkiaaGreat.Ab

/- Small laws on worlds: a span in a variable of its own stays what it is behind new blocks, behind calls that turn nothing old, and behind stores elsewhere. -/
namespace Go.Proofs.YtmhpeppbhjpkiaaGreat.Ab
open Go.RowKit

/-- Block b of W is a variable that holds the span s, o, l. -/
def SpanAt (W : World) (b : Nat) (s o l : Int) : Prop :=
  b < W.heap.size ∧ W.cell? ⟨b, 0, none⟩ = some (.int .i64 s) ∧ W.cell? ⟨b, 1, none⟩ = some (.int .i64 o) ∧ W.cell? ⟨b, 2, none⟩ = some (.int .i64 l) ∧
    W.frozen? ⟨b, 0, none⟩ = false ∧ W.frozen? ⟨b, 1, none⟩ = false ∧ W.frozen? ⟨b, 2, none⟩ = false

theorem SpanAt.new (w : World) (s o l : Int) : SpanAt (w.alloc (.cells #[.int .i64 s, .int .i64 o, .int .i64 l] 57)) w.heap.size s o l := by
  unfold SpanAt; simp

theorem SpanAt.alloc {W : World} {b : Nat} {s o l : Int} (h : SpanAt W b s o l) (x : Obj) : SpanAt (W.alloc x) b s o l := by
  obtain ⟨hb, h0, h1, h2, f0, f1, f2⟩ := h
  refine ⟨by simp; omega, ?_, ?_, ?_, ?_, ?_, ?_⟩
  · rw [World.cell?_alloc_past x b 0 hb]; exact h0
  · rw [World.cell?_alloc_past x b 1 hb]; exact h1
  · rw [World.cell?_alloc_past x b 2 hb]; exact h2
  · rw [World.frozen?_alloc_past x b 0 hb]; exact f0
  · rw [World.frozen?_alloc_past x b 1 hb]; exact f1
  · rw [World.frozen?_alloc_past x b 2 hb]; exact f2

theorem SpanAt.keep {W w1 : World} {b : Nat} {s o l : Int} (h : SpanAt W b s o l) (hB : Below W.heap.size W w1) : SpanAt w1 b s o l := by
  obtain ⟨hb, h0, h1, h2, f0, f1, f2⟩ := h
  have hz := hB.size
  refine ⟨by omega, ?_, ?_, ?_, ?_, ?_, ?_⟩
  · rw [hB.cell (p := ⟨b, 0, none⟩) hb]; exact h0
  · rw [hB.cell (p := ⟨b, 1, none⟩) hb]; exact h1
  · rw [hB.cell (p := ⟨b, 2, none⟩) hb]; exact h2
  · rw [hB.frozen (p := ⟨b, 0, none⟩) hb]; exact f0
  · rw [hB.frozen (p := ⟨b, 1, none⟩) hb]; exact f1
  · rw [hB.frozen (p := ⟨b, 2, none⟩) hb]; exact f2

theorem SpanAt.other {W : World} {b : Nat} {s o l : Int} (h : SpanAt W b s o l) {c i : Nat} (hc : c ≠ b) (v : Value) : SpanAt (W.setCell ⟨c, i, none⟩ v) b s o l := by
  obtain ⟨hb, h0, h1, h2, f0, f1, f2⟩ := h
  refine ⟨by simpa using hb, ?_, ?_, ?_, ?_, ?_, ?_⟩
  · rw [World.cell?_setCell_other _ _ _ _ (fun e => hc (congrArg Addr.block e))]; exact h0
  · rw [World.cell?_setCell_other _ _ _ _ (fun e => hc (congrArg Addr.block e))]; exact h1
  · rw [World.cell?_setCell_other _ _ _ _ (fun e => hc (congrArg Addr.block e))]; exact h2
  · simpa using f0
  · simpa using f1
  · simpa using f2

/-- a whole span stored over another -/
theorem SpanAt.put {W : World} {b : Nat} {s o l : Int} (h : SpanAt W b s o l) (s' o' l' : Int) :
    SpanAt (((W.setCell ⟨b, 0, none⟩ (.int .i64 s')).setCell ⟨b, 1, none⟩ (.int .i64 o')).setCell ⟨b, 2, none⟩ (.int .i64 l')) b s' o' l' := by
  obtain ⟨hb, h0, h1, h2, f0, f1, f2⟩ := h
  have e1 : (W.setCell ⟨b, 0, none⟩ (.int .i64 s')).cell? ⟨b, 1, none⟩ = some (.int .i64 o) := by rw [World.cell?_setCell_other _ _ _ _ (by simp)]; exact h1
  have e2 : ((W.setCell ⟨b, 0, none⟩ (.int .i64 s')).setCell ⟨b, 1, none⟩ (.int .i64 o')).cell? ⟨b, 2, none⟩ = some (.int .i64 l) := by
    rw [World.cell?_setCell_other _ _ _ _ (by simp), World.cell?_setCell_other _ _ _ _ (by simp)]; exact h2
  refine ⟨by simpa using hb, ?_, ?_, ?_, ?_, ?_, ?_⟩
  · rw [World.cell?_setCell_other _ _ _ _ (by simp), World.cell?_setCell_other _ _ _ _ (by simp)]; exact World.cell?_setCell_same _ _ _ h0
  · rw [World.cell?_setCell_other _ _ _ _ (by simp)]; exact World.cell?_setCell_same _ _ _ e1
  · exact World.cell?_setCell_same _ _ _ e2
  · simpa using f0
  · simpa using f1
  · simpa using f2
end Go.Proofs.YtmhpeppbhjpkiaaGreat.Ab

