/- The contract of (*Buffer).Holds, for every buffer, the nil one too, and every span. -/
import Derived.Test.YtpifjghhlcjedaaAbSource
import Derived.Deep.RegionWith
import Derived.Deep.QuietTactic
import Derived.BigQuiet
import Derived.Deep.RegionHeld3
namespace Go.Proofs.Ytpifjghhlcjedaa.Ab
open Go.RowKit

/-- Does the buffer hold the span? -/
def hdB (s o l : Int) (O A : List UInt8) : Bool := sndB s o l && decide (o + l ≤ ((which s O A).length : Int))

theorem sound_true (s o l : Int) (w : World) (hs : sndB s o l = true) :
    Calls Try.prog 114 #[.agg #[.int .i64 s, .int .i64 o, .int .i64 l]] w fun e w' => e = .returned (.bool true) ∧ w' = w.alloc (.cells #[.int .i64 s, .int .i64 o, .int .i64 l] 30) := by
  have ba := snd_bd hs
  have h := sound_any s o l w (by omega) (by omega)
  rwa [hs] at h
theorem sound_false (s o l : Int) (w : World) (h1 : -9223372036854775808 ≤ l) (h2 : l ≤ 9223372036854775807) (hs : sndB s o l = false) :
    Calls Try.prog 114 #[.agg #[.int .i64 s, .int .i64 o, .int .i64 l]] w fun e w' => e = .returned (.bool false) ∧ w' = w.alloc (.cells #[.int .i64 s, .int .i64 o, .int .i64 l] 30) := by
  have h := sound_any s o l w h1 h2
  rwa [hs] at h

set_option maxHeartbeats 1000000 in
theorem holds_yes (p : Option Addr) (s o l : Int) (O A : List UInt8) (base : Nat) (w : World) (hs : sndB s o l = true) (h : Hid (Bf w base p O A)) :
    Calls Try.prog 111 #[.pointer p, .agg #[.int .i64 s, .int .i64 o, .int .i64 l]] w fun e w' => e = .returned (.bool (decide (o + l ≤ ((which s O A).length : Int)))) ∧ Below w.heap.size w w' := by
  have ba := snd_bd hs
  go_enter Try.func111, Try.ntmps111
  go_wp2
  go_region_held3 (fun w' => w'.cell? ⟨w.heap.size, 0, none⟩ = some (.int .i64 s) ∧ w'.cell? ⟨w.heap.size, 1, none⟩ = some (.int .i64 o) ∧ w'.cell? ⟨w.heap.size, 2, none⟩ = some (.int .i64 l)) (simp [go_sem, World.cell?_alloc_past])
    (first | (go_at_call 114; refine (sound_true s o l _ hs).mono ?_; rintro e w' ⟨rfl, rfl⟩) | (go_at_call 80; refine (size_any _ _ O A base _ ?_).mono ?_; exact ((h.out.alloc _).alloc _).drew; rintro e w' ⟨rfl, rfl⟩))
  go_wp2
  go_ret
  refine ⟨ret_bool ?_, (bAlloc (bAlloc (Below.refl _ _) _) _).drew⟩
  rw [show IntKind.i64.wrap (o + l) = o + l from by rw [IntKind.wrap_i64]; omega]

set_option maxHeartbeats 1000000 in
theorem holds_no (p : Option Addr) (s o l : Int) (w : World) (h1 : -9223372036854775808 ≤ l) (h2 : l ≤ 9223372036854775807) (hs : sndB s o l = false) :
    Calls Try.prog 111 #[.pointer p, .agg #[.int .i64 s, .int .i64 o, .int .i64 l]] w fun e w' => e = .returned (.bool false) ∧ Below w.heap.size w w' := by
  go_enter Try.func111, Try.ntmps111
  go_wp2
  refine wp_region_any (by kernel_rfl) ?_
  change wpAny _ _ _ _ _ _ _ (World.drew _)
  refine wpAny_ready (rs := [0]) (by kernel_rfl) (by simp) (AllReady.cons rfl (fun K hK => ?_) AllReady.nil)
  go_simp
  refine hK _ _ ?_
  clear hK K
  refine wpAny_ready (rs := [1]) (by kernel_rfl) (by simp) (AllReady.cons rfl (fun K hK => ?_) AllReady.nil)
  go_simp
  go_wp2_with (go_at_call 114; refine (sound_false s o l _ h1 h2 hs).mono ?_; rintro e w' ⟨rfl, rfl⟩)
  refine wpAny_take (i := 2) (v := .bool false) rfl (by kernel_rfl) (by kernel_rfl) (by kernel_rfl) (fun _ _ _ h => h) (Or.inl ⟨by kernel_rfl, fun w => by go_simp⟩) ?_
  refine wpAny_take (i := 3) (v := undef) rfl (by kernel_rfl) (by kernel_rfl) (by kernel_rfl) (fun _ _ _ h => h) (Or.inr ⟨by kernel_rfl, rfl⟩) ?_
  refine wpAny_take (i := 4) (v := undef) rfl (by kernel_rfl) (by kernel_rfl) (by kernel_rfl) (fun _ _ _ h => h) (Or.inr ⟨by kernel_rfl, rfl⟩) ?_
  refine wpAny_take (i := 5) (v := undef) rfl (by kernel_rfl) (by kernel_rfl) (by kernel_rfl) (fun _ _ _ h => h) (Or.inr ⟨by kernel_rfl, rfl⟩) ?_
  refine wpAny_take (i := 6) (v := undef) rfl (by kernel_rfl) (by kernel_rfl) (by kernel_rfl) (fun _ _ _ h => h) (Or.inr ⟨by kernel_rfl, rfl⟩) ?_
  refine wpAny_take (i := 7) (v := undef) rfl (by kernel_rfl) (by kernel_rfl) (by kernel_rfl) (fun _ _ _ h => h) (Or.inr ⟨by kernel_rfl, rfl⟩) ?_
  refine wpAny_take (i := 8) (v := undef) rfl (by kernel_rfl) (by kernel_rfl) (by kernel_rfl) (fun _ _ _ h => h) (Or.inr ⟨by kernel_rfl, rfl⟩) ?_
  refine wpAny_take (i := 9) (v := undef) rfl (by kernel_rfl) (by kernel_rfl) (by kernel_rfl) (fun _ _ _ h => h) (Or.inr ⟨by kernel_rfl, rfl⟩) ?_
  refine wpAny_take (i := 10) (v := undef) rfl (by kernel_rfl) (by kernel_rfl) (by kernel_rfl) (fun _ _ _ h => h) (Or.inr ⟨by kernel_rfl, rfl⟩) ?_
  refine wpAny_take (i := 11) (v := undef) rfl (by kernel_rfl) (by kernel_rfl) (by kernel_rfl) (fun _ _ _ h => h) (Or.inr ⟨by kernel_rfl, rfl⟩) ?_
  refine wpAny_take (i := 12) (v := undef) rfl (by kernel_rfl) (by kernel_rfl) (by kernel_rfl) (fun _ _ _ h => h) (Or.inr ⟨by kernel_rfl, rfl⟩) ?_
  refine wpAny_take (i := 13) (v := .bool false) rfl (by kernel_rfl) (by kernel_rfl) (by kernel_rfl) (fun _ _ _ h => h) (Or.inl ⟨by kernel_rfl, fun w => by go_simp⟩) ?_
  refine wpAny_take (i := 14) (v := .bool false) rfl (by kernel_rfl) (by kernel_rfl) (by kernel_rfl) (fun _ _ _ h => h) (Or.inl ⟨by kernel_rfl, fun w => by go_simp⟩) ?_
  refine wpAny_done (by kernel_rfl) ?_ _
  go_wp2
  refine bodyPost_ret (v := .bool false) (by simp [results, Try.results111, go_sem]) rfl ⟨rfl, ?_⟩
  exact (bAlloc (bAlloc (Below.refl _ _) _) _).drew

theorem holds_any (p : Option Addr) (s o l : Int) (O A : List UInt8) (base : Nat) (w : World) (h1 : -9223372036854775808 ≤ l) (h2 : l ≤ 9223372036854775807) (h : Hid (Bf w base p O A)) :
    Calls Try.prog 111 #[.pointer p, .agg #[.int .i64 s, .int .i64 o, .int .i64 l]] w fun e w' => e = .returned (.bool (hdB s o l O A)) ∧ Below w.heap.size w w' := by
  unfold hdB
  cases hs : sndB s o l with
  | true => simpa using holds_yes p s o l O A base w hs h
  | false => simpa using holds_no p s o l w h1 h2 hs
end Go.Proofs.Ytpifjghhlcjedaa.Ab
