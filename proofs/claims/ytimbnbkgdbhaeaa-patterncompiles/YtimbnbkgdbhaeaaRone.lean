/- one, all. -/
import Derived.Test.YtimbnbkgdbhaeaaRsv
namespace Go.Proofs.Ytimbnbkgdbhaeaa
open Go.RowKit
set_option maxRecDepth 8000 in
set_option maxHeartbeats 2000000 in
theorem rone_any (b : Nat) (w : World) (hb : b < 256) :
    Calls Try.prog 30 #[.int .u8 (b : Int)] w fun e w' => e = .returned (.agg (sv fun x => x == b)) ∧ Below w.heap.size w w' := by
  have hb' : (b : Int) < 256 := by omega
  have hz := z74
  have H1 := Hid.mk' ((Blk.new w 74 (sv fun _ => false)).keep (bAlloc (Below.refl _ _) (.cells (sv fun _ => false) 74)))
  have H2 : Hid (Blk ((w.alloc (.cells (sv fun _ => false) 74)).alloc (.cells (sv fun _ => false) 74)) (w.heap.size + 1) 74 (sv fun _ => false)) := by
    have := Blk.new (w.alloc (.cells (sv fun _ => false) 74)) 74 (sv fun _ => false)
    simpa [Hid] using this
  have hsb : (sv fun _ => false)[b]? = some (.bool false) := by simp [sv, svl_at _ hb]
  generalize hSV : sv (fun _ => false) = SV at *
  have HSV := Hid.mk' hSV
  clear hSV
  obtain ⟨F, hF⟩ : ∃ F, F = fun x => x == b := ⟨_, rfl⟩
  rw [← hF]
  have HS : Hid (SV.setIfInBounds b (.bool true) = sv F) := by
    have h := (Blk.new w 74 (sv fun _ => false)).set74 b true
    have h2 := (Blk.new w 74 (sv fun _ => false)).set (j := b) (.bool true)
    unfold Blk at h h2
    rw [h2] at h
    injection h with h
    injection h with h _ _
    unfold Hid
    rw [← HSV.out, h, hF]
    have e : (fun x => if x = b then true else false) = fun x => x == b := by funext x; by_cases e : x = b <;> simp [e]
    rw [e]
  clear hF
  have H3 : Hid (Blk ((w.alloc (.cells SV 74)).alloc (.cells (SV.setIfInBounds b (.bool true)) 74)) (w.heap.size + 1) 74 (sv F)) := by
    have := Blk.new (w.alloc (.cells SV 74)) 74 (SV.setIfInBounds b (.bool true))
    rw [HS.out] at this ⊢
    simpa [Hid] using this
  have H4 : Hid (Blk ((w.alloc (.cells SV 74)).alloc (.cells (SV.setIfInBounds b (.bool true)) 74)) w.heap.size 74 (sv fun _ => false)) := by
    rw [HSV.out]; exact (Blk.new w 74 SV).keep (bAlloc (Below.refl _ _) _)
  go_enter Try.func30, Try.ntmps30
  go_wp2_with (first | (refine wl_load74 (.tmp 3) rfl rfl rfl H3.out ?_) | (refine wl_store74 (.tmp 2) (.tmp 6) rfl rfl rfl rfl H4.out ?_))
  have K := Hid.mk' (H4.out.put74 F)
  have B9 := Hid.mk' (below_setCells (Nat.le_refl w.heap.size) (svl F) 0 (bAlloc (bAlloc (Below.refl w.heap.size w) (.cells SV 74)) (.cells (SV.setIfInBounds b (.bool true)) 74)))
  change Hid (Below _ _ (put74 _ _ F)) at B9
  generalize put74 ((w.alloc (.cells SV 74)).alloc (.cells (SV.setIfInBounds b (.bool true)) 74)) w.heap.size F = W9 at *
  have hlv := lv74 K.out
  exact bodyPost_ret (v := .agg (sv F)) (by simp [results, Try.results30, Act.put, asAddr, hlv]) rfl ⟨rfl, B9.out⟩

set_option maxRecDepth 8000 in
set_option maxHeartbeats 2000000 in
theorem rall_any (w : World) : Calls Try.prog 31 #[] w fun e w' => e = .returned (.agg (sv fun _ => true)) ∧ Below w.heap.size w w' := by
  have hz := z74
  have H1 := Hid.mk' ((Blk.new w 74 (sv fun _ => false)).keep (bAlloc (Below.refl _ _) (.cells (sv fun _ => false) 74)))
  have H2 : Hid (Blk ((w.alloc (.cells (sv fun _ => false) 74)).alloc (.cells (sv fun _ => false) 74)) (w.heap.size + 1) 74 (sv fun _ => false)) := by
    have := Blk.new (w.alloc (.cells (sv fun _ => false) 74)) 74 (sv fun _ => false)
    simpa [Hid] using this
  have B0 := Hid.mk' (bAlloc (bAlloc (Below.refl w.heap.size w) (.cells (sv fun _ => false) 74)) (.cells (sv fun _ => false) 74))
  generalize hSV : sv (fun _ => false) = SV at *
  have HSV := Hid.mk' hSV
  clear hSV
  obtain ⟨T, HT⟩ : ∃ T, Hid (sv (fun _ => true) = T) := ⟨_, rfl⟩
  rw [HT.out]
  go_enter Try.func31, Try.ntmps31
  go_wp2_with fail
  go_loopg [2] 256 (fun m x2 wx => ∃ j : Nat, x2 = .int .i64 (j : Int) ∧ j + m = 256 ∧ Hid (Below w.heap.size w wx) ∧ Hid (Blk wx w.heap.size 74 (sv fun _ => false)) ∧ Hid (Blk wx (w.heap.size + 1) 74 (sv fun x => decide (x < j))))
  case atStart =>
    refine ⟨0, rfl, rfl, B0.out, by rw [HSV.out]; exact H1.out, ?_⟩
    rw [show (sv fun x => decide (x < 0)) = SV by rw [← HSV.out]; congr 1]; exact H2.out
  case round =>
    obtain ⟨j, rfl, hj, HB, K1, K2⟩ := hrel
    cases gk with
    | zero =>
      have hjn : ¬ ((j : Int) < 256) := by omega
      have HE : Hid (sv (fun x => decide (x < j)) = sv fun _ => true) := by
        unfold Hid sv; rw [svl_congr (fun x hx => by rw [decide_eq_true (by omega)])]
      have K2' := K2.out
      rw [HE.out] at K2'
      have K3 := Hid.mk' K2'
      clear K2' K2 HE
      go_wp2_with (first | (refine wl_load74 (.tmp 1) rfl rfl rfl K3.out ?_) | (refine wl_store74 (.tmp 0) (.tmp 9) rfl rfl rfl rfl K1.out ?_))
      have K := Hid.mk' (K1.out.put74 fun _ => true)
      have B9 := Hid.mk' (below_setCells (Nat.le_refl w.heap.size) (svl fun _ => true) 0 HB.out)
      change Hid (Below _ _ (put74 _ _ fun _ => true)) at B9
      generalize put74 wr w.heap.size (fun _ => true) = W9 at *
      have hlv := lv74 K.out
      exact bodyPost_ret (v := .agg (sv fun _ => true)) (by simp [results, Try.results31, asAddr, hlv]) rfl ⟨by rw [HT.out], B9.out⟩
    | succ m =>
      have hjn : (j : Int) < 256 := by omega
      have c1 := K2.out.at74 (k := j) (by omega)
      have z1 := K2.out.frozen j
      go_wp2
      go_roundg m
      case measure => omega
      case rel =>
        refine ⟨j + 1, by go_num, by omega, HB.out.setCell (by show w.heap.size ≤ w.heap.size + 1; omega) _, K1.out.off (by omega) _, ?_⟩
        have := K2.out.set74 j true
        rw [show (fun x => if x = j then true else decide (x < j)) = fun x => decide (x < j + 1) by
          funext x
          by_cases e : x = j
          · subst e; simp
          · rw [if_neg e]; apply decide_eq_decide.2; omega] at this
        exact this
end Go.Proofs.Ytimbnbkgdbhaeaa
