/- The walks of the reference's Check and of quoinlaw02.ShadeChecks. -/
import Derived.Test.YtcaegdfbbjfgpaaLook2
import Derived.Test.YtcaegdfbbjfgpaaAlive
namespace Go.Proofs.Ytcaegdfbbjfgpaa
open Go.RowKit

set_option maxRecDepth 100000 in
set_option maxHeartbeats 2000000 in
/-- look, of no rows -/
theorem look_nil (ao : Option Addr) (c : Nat) (w : World) : Calls Try.prog 55 #[.slice ao 0 c] w fun e w' => Looked w [] e w' := by
  go_enter Try.func55, Try.ntmps55
  go_wp2_with fail
  go_loopg [4, 5] 0 (fun _ g i wr => g = .slice none 0 0 ∧ i = .int .i64 (-1) ∧ Blk wr w.heap.size 93 z6 ∧ Below w.heap.size w wr)
  case atStart => exact ⟨rfl, rfl, Blk.new _ _ _, bAlloc (Below.refl _ _) _⟩
  case round =>
    obtain ⟨rfl, rfl, hB, hb⟩ := hrel
    obtain ⟨z0, z1, z2, z3, z4, z5⟩ := blk6 hB
    have fz := hB.frozen
    have HB := Hid.mk' hb
    clear hB hb
    go_wp2_with fail
    refine bodyPost_ret (v := .tuple #[.agg #[.bool false, .int .i64 0, .int .i64 0, .int .i64 0, .int .i64 0, .int .i64 0], .bool true]) (by simp [results, Try.results55, go_sem, z0, z1, z2, z3, z4, z5]) rfl ⟨⟨false, 0, 0, 0, 0, 0, rfl, fun t ht => by simp [lookF] at ht, fun _ => rfl⟩, ?_⟩
    exact put6_below HB.out (Nat.le_refl _) _ _ _ _ _ _
theorem look_rdr (L : List Rw) (v : Value) (w : World) (hz : L.length ≤ 65536) (hr : Rdr w v L) : Calls Try.prog 55 #[v] w fun e w' => Looked w L e w' := by
  obtain ⟨ao, n, c, rfl, hn, _, h⟩ := hr
  rcases h with rfl | ⟨b, off, rfl, h⟩
  · simp at hn; subst hn; exact look_nil ao c w
  · exact look_any b off n c L w hn (by omega) h

set_option maxRecDepth 100000 in
set_option maxHeartbeats 2000000 in
theorem refCheck_any (L : List Rw) (v : Value) (w : World) (hz : L.length ≤ 65536) (hr : Hid (Rdr w v L)) :
    Calls Try.prog 24 #[v] w fun e w' => e = .returned (.int .i64 (if okF (lookF L) = true then 0 else 21)) ∧ Below w.heap.size w w' := by
  cases hk : okF (lookF L) with
  | true =>
    go_enter Try.func24, Try.ntmps24
    go_wp2_with (go_at_call 55; refine (look_rdr L v w hz hr.out).mono ?_; rintro e w9 ⟨⟨b0, i1, i2, i3, i4, i5, rfl, -, -⟩, hb9⟩; rw [hk])
    go_ret
    exact ⟨rfl, bAlloc hb9 _⟩
  | false =>
    go_enter Try.func24, Try.ntmps24
    go_wp2_with (go_at_call 55; refine (look_rdr L v w hz hr.out).mono ?_; rintro e w9 ⟨⟨b0, i1, i2, i3, i4, i5, rfl, -, -⟩, hb9⟩; rw [hk])
    go_ret
    exact ⟨rfl, bAlloc hb9 _⟩

set_option maxRecDepth 100000 in
set_option maxHeartbeats 2000000 in
theorem checks_walk (L : List Rw) (v : Value) (w : World) (hr : Hid (Rdr w v L)) :
    Calls Try.prog 5 #[v] w fun e w' => e = .returned (.bool true) ∧ Below w.heap.size w w' := by
  obtain ⟨ao, n, c, e1, hn, hc, -⟩ := hr.out
  subst e1
  by_cases hz : n ≤ 65536
  · have hk := check_look (L := L) (by omega)
    generalize hX : (if checkB L = true then (0 : Int) else 21) = X
    have HX := Hid.mk' hX
    have HY : Hid ((if okF (lookF L) = true then (0 : Int) else 21) = X) := by unfold Hid; rw [← hk]; exact hX
    have hz1 : L.length ≤ 1048576 := by omega
    have hz2 : L.length ≤ 65536 := by omega
    have hz3 : (n : Int) ≤ 65536 := by omega
    clear hX hk hn
    go_enter Try.func5, Try.ntmps5
    go_wp2_with (first | (go_at_call 9; refine (alive_any w).mono ?_; rintro e w9 ⟨rfl, hb9⟩; have H9 := Hid.mk' hb9; clear hb9)
                       | (go_at_call 23; (have Q := Check_any L _ w9 hz1 (hr.out.keep H9.out)); rw [HX.out] at Q; refine Q.mono ?_; clear Q; rintro e w8 ⟨rfl, hb8⟩; have H8 := Hid.mk' (bT H9.out hb8); clear hb8)
                       | (go_at_call 24; (have Q := refCheck_any L _ w8 hz2 (hr.out.keep H8.out)); rw [HY.out] at Q; refine Q.mono ?_; clear Q; rintro e w7 ⟨rfl, hb7⟩; have H7 := Hid.mk' (bT H8.out hb7); clear hb7))
    go_ret
    exact ⟨by first | rfl | simp, H7.out⟩
  · have hz3 : (65536 : Int) < (n : Int) := by omega
    go_enter Try.func5, Try.ntmps5
    go_wp2_with (go_at_call 9; refine (alive_any w).mono ?_; rintro e w9 ⟨rfl, hb9⟩; have H9 := Hid.mk' hb9; clear hb9)
    go_ret
    exact ⟨rfl, H9.out⟩
end Go.Proofs.Ytcaegdfbbjfgpaa
