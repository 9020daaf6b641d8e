/- has, add, others, single. -/
import Derived.Test.YtaakgoojcogbcaaSets
import Derived.Deep.RegionHeld3
import Derived.Deep.LoopGhost
import Derived.BigRegion
import Derived.BigQuiet
import Derived.Deep.QuietTactic
namespace Go.Proofs.Ytaakgoojcogbcaa
open Go.RowKit
def Blk (W : World) (B : Nat) (e : Nat) (cs : Array Value) : Prop := W.heap[B]? = some (.cells cs e (0, 0))
theorem Blk.cell {W : World} {B e j : Nat} {cs : Array Value} {v : Value} (h : Blk W B e cs) (hj : cs[j]? = some v) : W.cell? ⟨B, j, none⟩ = some v := by
  rw [cell_of_row W B j cs e (0, 0) h]; exact hj
theorem Blk.frozen {W : World} {B e : Nat} {cs : Array Value} (h : Blk W B e cs) (j : Nat) : W.frozen? ⟨B, j, none⟩ = false := frozen_of_row W B j cs e h
theorem Blk.lt {W : World} {B e : Nat} {cs : Array Value} (h : Blk W B e cs) : B < W.heap.size := (Array.getElem?_eq_some_iff.1 h).1
theorem Blk.keep {W W' : World} {B e : Nat} {cs : Array Value} (h : Blk W B e cs) (hb : Below W.heap.size W W') : Blk W' B e cs := by unfold Blk; rw [hb.block B h.lt]; exact h
theorem Blk.keepB {W W' : World} {B e n : Nat} {cs : Array Value} (h : Blk W B e cs) (hb : Below n W W') (hn : B < n) : Blk W' B e cs := by unfold Blk; rw [hb.block B hn]; exact h
theorem Blk.new (W : World) (e : Nat) (cs : Array Value) : Blk (W.alloc (.cells cs e)) W.heap.size e cs := heap_alloc_new W _
theorem Blk.set {W : World} {B e j : Nat} {cs : Array Value} (h : Blk W B e cs) (v : Value) : Blk (W.setCell ⟨B, j, none⟩ v) B e (cs.setIfInBounds j v) := heap_setCell_same _ _ _ _ _ _ h
theorem Blk.off {W : World} {B B' e j : Nat} {cs : Array Value} (h : Blk W B' e cs) (hne : B' ≠ B) (v : Value) : Blk (W.setCell ⟨B, j, none⟩ v) B' e cs := by
  unfold Blk; rw [heap_setCell_other _ _ _ _ hne]; exact h
/-- a set's four words -/
def wv (f : Nat → Bool) : Array Value := #[.int .u64 (wz f 0 : Int), .int .u64 (wz f 1 : Int), .int .u64 (wz f 2 : Int), .int .u64 (wz f 3 : Int)]
theorem wv_at (f : Nat → Bool) {j : Nat} (h : j < 4) : (wv f)[j]? = some (.int .u64 (wz f j : Int)) := by
  unfold wv
  rcases j with _ | _ | _ | _ | j
  · rfl
  · rfl
  · rfl
  · rfl
  · omega
theorem wv_set (f : Nat → Bool) (b : Nat) (h : b < 256) : (wv f).setIfInBounds (b / 64) (.int .u64 (wz (fun x => f x || x == b) (b / 64) : Int)) = wv (fun x => f x || x == b) := by
  have hb : b = 64 * (b / 64) + b % 64 := by omega
  have ho : ∀ k, k ≠ b / 64 → wz (fun x => f x || x == b) k = wz f k := fun k hk => by
    have := or_other f (b / 64) k (b % 64) (by omega) hk
    rw [← hb] at this
    exact this
  have h4 : b / 64 < 4 := by omega
  generalize b / 64 = j at *
  unfold wv
  rcases j with _ | _ | _ | _ | j
  · rw [ho 1 (by omega), ho 2 (by omega), ho 3 (by omega)]; rfl
  · rw [ho 0 (by omega), ho 2 (by omega), ho 3 (by omega)]; rfl
  · rw [ho 0 (by omega), ho 1 (by omega), ho 3 (by omega)]; rfl
  · rw [ho 0 (by omega), ho 1 (by omega), ho 2 (by omega)]; rfl
  · omega

set_option maxHeartbeats 1000000 in
theorem has_any (f : Nat → Bool) (b : Nat) (w : World) (hb : b < 256) :
    Calls Try.prog 85 #[.agg (wv f), .int .u8 (b : Int)] w fun e w' => e = .returned (.bool (f b)) ∧ Below w.heap.size w w' := by
  have h1 : (wv f)[b / 64]? = some (.int .u64 (wz f (b / 64) : Int)) := wv_at f (by omega)
  have hm : (b : Int) % 64 < 64 := by omega
  have hm0 : (0 : Int) ≤ (b : Int) % 64 := by omega
  go_enter Try.func85, Try.ntmps85
  go_wp2
  go_ret
  refine ⟨?_, bAlloc (Below.refl _ _) _⟩
  have := has_word f (b / 64) (b % 64) (by omega)
  rw [show 64 * (b / 64) + b % 64 = b by omega] at this
  exact congrArg (fun x => Ending.returned (.bool x)) this

set_option maxHeartbeats 2000000 in
theorem add_any (f : Nat → Bool) (B lo hi : Nat) (w : World) (h0 : lo < 256) (h1 : hi < 256) (H : Hid (Blk w B 93 (wv f))) :
    Calls Try.prog 83 #[.pointer (some ⟨B, 0, none⟩), .int .u8 (lo : Int), .int .u8 (hi : Int)] w fun e w' => e = .returned (.tuple #[]) ∧ Below B w w' ∧ Blk w' B 93 (wv (fun x => f x || (decide (lo ≤ x) && decide (x ≤ hi)))) := by
  go_enter Try.func83, Try.ntmps83
  go_wp2
  go_loopg [6] (hi + 1 - lo) (fun m x6 wx => ∃ j : Nat, x6 = .int .i64 (j : Int) ∧ lo ≤ j ∧ m = hi + 1 - j ∧ (j ≤ hi + 1 ∨ j = lo) ∧ j ≤ 256 ∧ Hid (Below B w wx) ∧ Hid (Blk wx B 93 (wv (fun x => f x || (decide (lo ≤ x) && decide (x < j))))))
  case atStart =>
    refine ⟨lo, rfl, Nat.le_refl _, rfl, .inr rfl, by omega, Below.refl _ _, ?_⟩
    have : (fun x => f x || (decide (lo ≤ x) && decide (x < lo))) = f := by
      funext x
      by_cases hx : lo ≤ x
      · have : ¬ x < lo := by omega
        simp [this]
      · simp [hx]
    rw [this]; exact H.out
  case round =>
    obtain ⟨j, rfl, hj, hm, hj4, hj2, HB, HK⟩ := hrel
    generalize hF : (fun x => f x || (decide (lo ≤ x) && decide (x < j))) = F at HK
    cases gk with
    | zero =>
      have hc : ¬ ((j : Int) ≤ (hi : Int)) := by omega
      go_wp2
      refine bodyPost_end (v := .tuple #[]) (by simp [results, Try.results83]) rfl ?_
      refine ⟨rfl, HB.out, ?_⟩
      have e : (fun x => f x || (decide (lo ≤ x) && decide (x ≤ hi))) = F := by
        rw [← hF]; funext x
        by_cases hx : lo ≤ x
        · have : decide (x ≤ hi) = decide (x < j) := by apply decide_eq_decide.2; omega
          rw [this]
        · simp [hx]
      rw [e]; exact HK.out
    | succ m =>
      have hc : (j : Int) ≤ (hi : Int) := by omega
      have hj3 : j < 256 := by omega
      have c1 : wr.cell? ⟨B, j / 64, none⟩ = some (.int .u64 (wz F (j / 64) : Int)) := HK.out.cell (wv_at F (by omega))
      have z1 := HK.out.frozen (j / 64)
      have hd : (j : Int) / 64 < 4 := by omega
      have hd0 : (0 : Int) ≤ (j : Int) / 64 := by omega
      have hm1 : (j : Int) % 64 < 64 := by omega
      have hm0 : (0 : Int) ≤ (j : Int) % 64 := by omega
      go_wp2
      go_region
      go_wp2
      go_roundg m
      case measure => omega
      case rel =>
        have hb : j = 64 * (j / 64) + j % 64 := by omega
        have hor := or_word F (j / 64) (j % 64) (by omega)
        rw [← hb, Int.one_mul] at hor
        rw [hor]
        refine ⟨j + 1, by simp, by omega, by omega, by omega, by omega, ?_, ?_⟩
        · exact (HB.out.setCell (Nat.le_refl _) _).drew
        · have hk := (HK.out.set (j := j / 64) (.int .u64 (wz (fun x => F x || x == j) (j / 64) : Int))).keep (Below.refl _ _).drew
          rw [wv_set F j hj3] at hk
          have e : (fun x => f x || (decide (lo ≤ x) && decide (x < j + 1))) = fun x => F x || x == j := by
            rw [← hF]; funext x
            by_cases hx : x = j
            · subst hx; simp; omega
            · have e1 : decide (x < j + 1) = decide (x < j) := by apply decide_eq_decide.2; omega
              have e2 : (x == j) = false := by simpa using hx
              rw [e1, e2, Bool.or_false]
          rw [e]; exact hk

theorem wz_none (j : Nat) : wz (fun _ => false) j = 0 := by
  refine (wz_eq _ j 0 (by decide) fun i _ => by simp).symm
theorem wv_none : wv (fun _ => false) = #[.int .u64 0, .int .u64 0, .int .u64 0, .int .u64 0] := by
  unfold wv; simp only [wz_none]; rfl
theorem wz_congr {F G : Nat → Bool} {k : Nat} (h : ∀ x, x / 64 = k → F x = G x) : wz F k = wz G k := by
  refine wz_eq _ k _ (wz_lt F k) fun i hi => ?_
  rw [wz_bit F k i hi]; exact h _ (by omega)
theorem wv_upd {F G : Nat → Bool} {j : Nat} (h4 : j < 4) (h : ∀ x, x / 64 ≠ j → F x = G x) : (wv F).setIfInBounds j (.int .u64 (wz G j : Int)) = wv G := by
  have ho : ∀ k, k ≠ j → wz F k = wz G k := fun k hk => wz_congr fun x hx => h x (by omega)
  unfold wv
  rcases j with _ | _ | _ | _ | j
  · rw [ho 1 (by omega), ho 2 (by omega), ho 3 (by omega)]; rfl
  · rw [ho 0 (by omega), ho 2 (by omega), ho 3 (by omega)]; rfl
  · rw [ho 0 (by omega), ho 1 (by omega), ho 3 (by omega)]; rfl
  · rw [ho 0 (by omega), ho 1 (by omega), ho 2 (by omega)]; rfl
  · omega
/-- a set's words, stored -/
def put4 (W : World) (B : Nat) (G : Nat → Bool) : World := (((W.setCell ⟨B, 0, none⟩ (.int .u64 (wz G 0 : Int))).setCell ⟨B, 1, none⟩ (.int .u64 (wz G 1 : Int))).setCell ⟨B, 2, none⟩ (.int .u64 (wz G 2 : Int))).setCell ⟨B, 3, none⟩ (.int .u64 (wz G 3 : Int))
theorem put4_below {a W : World} {n B : Nat} (h : Below n a W) (hb : n ≤ B) (G : Nat → Bool) : Below n a (put4 W B G) := (((h.setCell hb _).setCell hb _).setCell hb _).setCell hb _
theorem Blk.put4 {W : World} {B e : Nat} {x0 x1 x2 x3 : Value} (h : Blk W B e #[x0, x1, x2, x3]) (G : Nat → Bool) : Blk (put4 W B G) B e (wv G) := (((h.set _).set _).set _).set _
theorem set_of_blk {W : World} {B e : Nat} {G : Nat → Bool} (h : Blk W B e (wv G)) : Hid (W.cell? ⟨B, 0, none⟩ = some (.int .u64 (wz G 0 : Int)) ∧ W.cell? ⟨B, 1, none⟩ = some (.int .u64 (wz G 1 : Int)) ∧ W.cell? ⟨B, 2, none⟩ = some (.int .u64 (wz G 2 : Int)) ∧ W.cell? ⟨B, 3, none⟩ = some (.int .u64 (wz G 3 : Int))) :=
  ⟨h.cell (wv_at _ (by omega)), h.cell (wv_at _ (by omega)), h.cell (wv_at _ (by omega)), h.cell (wv_at _ (by omega))⟩
/-- the first i words turned -/
def nt (f : Nat → Bool) (i : Nat) (x : Nat) : Bool := if x / 64 < i then !f x else f x
set_option maxHeartbeats 2000000 in
theorem others_any (f : Nat → Bool) (w : World) :
    Calls Try.prog 53 #[.agg (wv f)] w fun e w' => e = .returned (.agg (wv (fun x => !f x))) ∧ Below w.heap.size w w' := by
  obtain ⟨G, hG⟩ : ∃ G, G = fun x => !f x := ⟨_, rfl⟩
  rw [← hG]
  have HG := Hid.mk' hG
  clear hG
  go_enter Try.func53, Try.ntmps53
  go_wp2
  go_loopg [3, 4] 4 (fun m x3 x4 wx => ∃ j : Nat, x4 = .int .i64 (j : Int) ∧ m = 4 - j ∧ j ≤ 4 ∧ Hid (Below w.heap.size w wx) ∧ Hid (Blk wx w.heap.size 93 (wv (nt f j))) ∧ Hid (Blk wx (w.heap.size + 1) 93 #[.int .u64 0, .int .u64 0, .int .u64 0, .int .u64 0]))
  case atStart =>
    refine ⟨0, rfl, rfl, by omega, bAlloc (bAlloc (Below.refl _ _) _) _, ?_, ?_⟩
    · have e : nt f 0 = f := by funext x; simp [nt]
      rw [e]
      exact (Blk.new w 93 (wv f)).keep (bAlloc (Below.refl _ _) _)
    · have := Blk.new (w.alloc (.cells (wv f) 93)) 93 #[.int .u64 0, .int .u64 0, .int .u64 0, .int .u64 0]
      exact by simpa [Hid] using this
  case round =>
    obtain ⟨j, rfl, hm, hj, HB, HK, H2⟩ := hrel
    cases gk with
    | zero =>
      have hj4 : j = 4 := by omega
      have hji : (j : Int) = 4 := by omega
      have hw : Hid (wv (nt f j) = wv (fun x => !f x)) := by
        have e : ∀ k, k < 4 → wz (nt f j) k = wz (fun x => !f x) k := fun k hk => wz_congr fun x hx => by unfold nt; rw [if_pos (by omega)]
        unfold wv Hid; rw [e 0 (by omega), e 1 (by omega), e 2 (by omega), e 3 (by omega)]
      have HK2 := Hid.mk' (hw.out ▸ HK.out)
      rw [← HG.out] at HK2
      clear hw HK hj4 hm
      have z0 := H2.out.frozen 0
      have z1 := H2.out.frozen 1
      have z2 := H2.out.frozen 2
      have z3 := H2.out.frozen 3
      have a0 := H2.out.cell (j := 0) rfl
      have a1 := H2.out.cell (j := 1) rfl
      have a2 := H2.out.cell (j := 2) rfl
      have a3 := H2.out.cell (j := 3) rfl
      have c0 := HK2.out.cell (wv_at _ (j := 0) (by omega))
      have c1 := HK2.out.cell (wv_at _ (j := 1) (by omega))
      have c2 := HK2.out.cell (wv_at _ (j := 2) (by omega))
      have c3 := HK2.out.cell (wv_at _ (j := 3) (by omega))
      go_wp2
      have hP := put4_below HB.out (show w.heap.size ≤ w.heap.size + 1 by omega) G
      have HP := set_of_blk (Blk.put4 H2.out G)
      change bodyPost _ _ _ _ _ (put4 wr (w.heap.size + 1) G)
      generalize put4 wr (w.heap.size + 1) G = W at hP HP ⊢
      obtain ⟨d0, d1, d2, d3⟩ := HP.out
      refine bodyPost_ret (v := .agg (wv G)) (by simp [results, Try.results53, go_sem, wv, d0, d1, d2, d3]) rfl ⟨rfl, hP⟩
    | succ m =>
      have hj4 : (j : Int) < 4 := by omega
      have hj0 : (0 : Int) ≤ (j : Int) := by omega
      have hjn : j < 4 := by omega
      have c1 : wr.cell? ⟨w.heap.size, j, none⟩ = some (.int .u64 (wz (nt f j) j : Int)) := HK.out.cell (wv_at _ hjn)
      have z1 := HK.out.frozen j
      go_wp2
      go_roundg m
      case measure => omega
      case rel =>
        rw [not_word]
        have ew : wz (fun x => !nt f j x) j = wz (nt f (j + 1)) j := wz_congr fun x hx => by
          unfold nt; rw [if_neg (by omega), if_pos (by omega)]
        rw [ew]
        refine ⟨j + 1, by simp, by omega, by omega, HB.out.setCell (Nat.le_refl _) _, ?_, H2.out.off (by omega) _⟩
        have hk := HK.out.set (j := j) (.int .u64 (wz (nt f (j + 1)) j : Int))
        rw [wv_upd hjn (fun x hx => by
          unfold nt
          by_cases hlt : x / 64 < j
          · rw [if_pos hlt, if_pos (by omega)]
          · rw [if_neg hlt, if_neg (by omega)])] at hk
        exact hk
set_option maxHeartbeats 1000000 in
theorem single_any (b : Nat) (w : World) (hb : b < 256) :
    Calls Try.prog 54 #[.int .u8 (b : Int)] w fun e w' => e = .returned (.agg (wv (fun x => x == b))) ∧ Below w.heap.size w w' := by
  have H2 : Hid (Blk ((w.alloc (.cells #[.int .u64 0, .int .u64 0, .int .u64 0, .int .u64 0] 96)).alloc (.cells #[.int .u64 0, .int .u64 0, .int .u64 0, .int .u64 0] 93)) (w.heap.size + 1) 93 (wv (fun _ => false))) := by
    have := Blk.new (w.alloc (.cells #[.int .u64 0, .int .u64 0, .int .u64 0, .int .u64 0] 96)) 93 (wv (fun _ => false))
    rw [wv_none] at this ⊢
    simpa [Hid] using this
  obtain ⟨F, hF⟩ : ∃ F, F = fun x => x == b := ⟨_, rfl⟩
  rw [← hF]
  have HF := Hid.mk' hF
  clear hF
  go_enter Try.func54, Try.ntmps54
  go_wp2_with fail
  refine (add_any (fun _ => false) (w.heap.size + 1) b b _ hb hb H2).mono ?_
  rintro e w1 ⟨rfl, hb1, hk⟩
  have HK := Hid.mk' hk
  clear hk
  have H3 : Hid (Blk w1 w.heap.size 96 #[.int .u64 0, .int .u64 0, .int .u64 0, .int .u64 0]) := by
    have := (Blk.new w 96 #[.int .u64 0, .int .u64 0, .int .u64 0, .int .u64 0]).keep (bAlloc (Below.refl _ _) (.cells #[.int .u64 0, .int .u64 0, .int .u64 0, .int .u64 0] 93))
    exact this.keepB hb1 (by omega)
  have HB : Hid (Below w.heap.size w w1) := (bAlloc (bAlloc (Below.refl _ _) _) _).trans (hb1.mono (by simp))
  clear hb1
  have e : (fun x => false || (decide (b ≤ x) && decide (x ≤ b))) = fun x => x == b := by
    funext x; rw [Bool.eq_iff_iff]; simp; omega
  rw [e] at HK
  clear e
  rw [← HF.out] at HK
  have z0 := H3.out.frozen 0
  have z1 := H3.out.frozen 1
  have z2 := H3.out.frozen 2
  have z3 := H3.out.frozen 3
  have a0 := H3.out.cell (j := 0) rfl
  have a1 := H3.out.cell (j := 1) rfl
  have a2 := H3.out.cell (j := 2) rfl
  have a3 := H3.out.cell (j := 3) rfl
  have c0 := HK.out.cell (wv_at _ (j := 0) (by omega))
  have c1 := HK.out.cell (wv_at _ (j := 1) (by omega))
  have c2 := HK.out.cell (wv_at _ (j := 2) (by omega))
  have c3 := HK.out.cell (wv_at _ (j := 3) (by omega))
  go_wp2_with fail
  have hP := put4_below HB.out (show w.heap.size ≤ w.heap.size by omega) F
  have HP := set_of_blk (Blk.put4 H3.out F)
  change bodyPost _ _ _ _ _ (put4 w1 (w.heap.size) F)
  generalize put4 w1 (w.heap.size) F = W at hP HP ⊢
  obtain ⟨d0, d1, d2, d3⟩ := HP.out
  refine bodyPost_ret (v := .agg (wv F)) (by simp [results, Try.results54, go_sem, wv, d0, d1, d2, d3]) rfl ⟨rfl, hP⟩
end Go.Proofs.Ytaakgoojcogbcaa
