/- The contract of between. -/
import Derived.Test.YtjjgloioppjcaaaSame
import Derived.Test.YtjjgloioppjcaaaBet0
namespace Go.Proofs.Ytjjgloioppjcaaa
open Go.RowKit

/-- what stands behind j spans -/
def SofarB (w : World) (st : List Sp × Int) (v z : Value) (wr : World) : Prop := wr.ownsRow w.heap.size 39 3 v st.1.length (cells st.1) ∧ z = .int .i64 st.2 ∧ Below w.heap.size w wr

theorem var_kept {wr w2 : World} {B n : Nat} {v : Value} {xs : List Value} {s o l : Int} {x : Obj} (h : wr.ownsRow B 39 3 v n xs) (hg : ((wr.alloc (.cells #[.int .i64 s, .int .i64 o, .int .i64 l] 39)).alloc x).drew.grownBy w2 v.ownBlock) : w2.cell? ⟨wr.heap.size, 2, none⟩ = some (.int .i64 l) := by
  rw [World.cell?_of_block (a := ⟨wr.heap.size, 2, none⟩) (hg.block wr.heap.size (by simp; omega) (fun e => by have := (h.lt _ e.symm).2; omega))]
  have e : ((wr.alloc (.cells #[.int .i64 s, .int .i64 o, .int .i64 l] 39)).alloc x).cell? ⟨wr.heap.size, 2, none⟩ = some (.int .i64 l) := by
    rw [World.cell?_alloc_past x _ _ (by simp)]; simp
  exact e

set_option maxRecDepth 100000 in
set_option maxHeartbeats 4000000 in
theorem between_any (ao : Option Addr) (c : Nat) (a b : Int) (L : List Sp) (w : World) (hz : L.length * 24 ≤ 140737488355328) (hok : Hid (okL L = true)) (hr : Hid (L = [] ∨ ∃ b off, ao = some ⟨b, off, none⟩ ∧ Row w b off L)) :
    Calls Try.prog 34 #[.slice ao L.length c, .int .i64 a, .int .i64 b] w fun e w' => Gave w.heap.size w (betW a b L) e w' := by
  obtain ⟨i0, hi, hz0, hz1, hz2⟩ := info_parts info39
  go_enter Try.func34, Try.ntmps34
  go_wp2
  go_loopw [7, 8, 15] (fun v z i wq => ∃ m : Nat, m ≤ L.length ∧ i = .int .i64 m ∧ SofarB w ((L.take m).foldl (stp a b) ([], 0)) v z wq) (fun _ _ i _ => L.length - (intOf i).toNat)
  case atStart => exact ⟨0, Nat.zero_le _, rfl, World.ownsRow_nil _ _ _ _, rfl, Below.refl _ _⟩
  case round =>
    obtain ⟨m, hm, rfl, h1, rfl, h2⟩ := hrel
    have HT := Hid.mk' h1
    have HB := Hid.mk' h2
    clear h1 h2
    by_cases hmt : m < L.length
    · rcases hr.out with hn | ⟨b', off, rfl, hrw⟩
      · rw [hn] at hmt; simp at hmt
      rcases hp : L[m]? with _ | ⟨s, o, l⟩
      · have := List.getElem?_eq_none_iff.1 hp; omega
      obtain ⟨r0, r1, r2⟩ := row3 (hrw.keep HB.out) hp
      have hm0 : (0 : Int) ≤ (m : Int) := by omega
      have hml : (m : Int) < (L.length : Int) := by omega
      have HE := Hid.mk' (stp_take (a := a) (b := b) (st := ([], 0)) hp)
      have hrg := (rgt_iff _).1 (okL_mem hok.out (List.mem_of_getElem? hp))
      dsimp only at hrg
      have hlen : ((L.take m).foldl (stp a b) ([], 0)).1.length ≤ m := by have h1 := foldl_bet_length (a := a) (b := b) (L.take m) ([], 0); have h2 : (L.take m).length ≤ m := List.length_take_le _ _; simp only [List.length_nil, Nat.zero_add] at h1; omega
      generalize hst : (L.take m).foldl (stp a b) ([], 0) = st at *
      obtain ⟨A, T⟩ := st
      dsimp only at hlen HT
      clear hst hp hrw hr
      generalize hX : IntKind.i64.wrap (a - T) = X
      have HX := Hid.mk' hX
      rw [Go.IntWalk.i64_left] at hX
      generalize hY : IntKind.i64.wrap (b - T) = Y
      have HY := Hid.mk' hY
      rw [Go.IntWalk.i64_left] at hY
      dsimp only
      by_cases hc1 : X < 0
      · by_cases hc2 : l < Y
        · skip
          by_cases hc3 : 0 < l
          · have hG : Hid (one a b T ⟨s, o, l⟩ = [⟨s, o + 0, l - 0⟩]) := by
              unfold Hid one one.a' one.b'
              rw [HX.out, HY.out]
              have e1 : max X 0 = 0 := by omega
              have e2 : min Y l = l := by omega
              dsimp only
              rw [e1, e2, if_pos hc3]
            go_wp2
            go_region
            go_wp2_with (at_builtin; refine wpList_append_own _ rfl (.tmp 32) (.tmp 43) 22 rfl w.heap.size 39 i0 (.agg #[.int .i64 0, .int .i64 0, .int .i64 0]) 3 24 Try.underlying22 hi hz0 hz1 hz2 rfl (by decide) u7 A.length (cells A) rfl (own_drew ((HT.out.alloc _).alloc _)) ⟨wr.heap.size + 1, 0, none⟩ 1 1 [.int .i64 s, .int .i64 (o + 0), .int .i64 (l - 0)] rfl ?qd1 ?qd2 (one3 s (o + 0) (l - 0)) ?qd4 ?qd5 ?qd6 ?_)
            case qd1 => rfl
            case qd2 => intro j u hj; have := put_cells (wr.alloc (.cells #[.int .i64 s, .int .i64 o, .int .i64 l] 39)) s (o + 0) (l - 0) j u hj; rw [show (wr.alloc (.cells #[.int .i64 s, .int .i64 o, .int .i64 l] 39)).heap.size = wr.heap.size + 1 from by simp] at this; first | exact this | simpa using this
            case qd4 => unfold maxLen; omega
            case qd5 => omega
            case qd6 => have := HB.out.size; simp; omega
            intro v' w2 hown2 hgrow _
            have HT2 : Hid (w2.ownsRow w.heap.size 39 3 v' (A ++ one a b T ⟨s, o, l⟩).length (cells (A ++ one a b T ⟨s, o, l⟩))) := by
              unfold Hid; rw [hG.out, cells_append]; simpa [cells, Sp.cs] using hown2
            have HB2 : Hid (Below w.heap.size w w2) := (bAlloc (bAlloc HB.out _) _).drew.grown hgrow (by have := HB.out.size; simp; omega) (fun k hk => (HT.out.lt k hk).1)
            have z2 := var_kept HT.out hgrow
            clear hown2 hgrow hX hY
            go_wp2
            go_roundw
            case rel => exact ⟨m + 1, by omega, by go_num, by rw [HE.out]; exact ⟨HT2.out, by unfold stp; first | rfl | (rw [Go.IntWalk.i64_left]), HB2.out⟩⟩
            case measure => simp [intOf]; omega
          · have hG : Hid (one a b T ⟨s, o, l⟩ = []) := by
              unfold Hid one one.a' one.b'
              rw [HX.out, HY.out]
              have e1 : max X 0 = 0 := by omega
              have e2 : min Y l = l := by omega
              dsimp only
              rw [e1, e2, if_neg hc3]
            go_wp2
            go_region
            clear hX hY
            go_wp2
            go_roundw
            case rel => exact ⟨m + 1, by omega, by go_num, by rw [HE.out]; exact ⟨by unfold stp; dsimp only; rw [hG.out, List.append_nil]; exact own_drew (HT.out.alloc _), by unfold stp; first | rfl | (rw [Go.IntWalk.i64_left]), (bAlloc HB.out _).drew⟩⟩
            case measure => simp [intOf]; omega
        · skip
          by_cases hc3 : 0 < Y
          · have hG : Hid (one a b T ⟨s, o, l⟩ = [⟨s, o + 0, Y - 0⟩]) := by
              unfold Hid one one.a' one.b'
              rw [HX.out, HY.out]
              have e1 : max X 0 = 0 := by omega
              have e2 : min Y l = Y := by omega
              dsimp only
              rw [e1, e2, if_pos hc3]
            go_wp2
            go_region
            go_wp2_with (at_builtin; refine wpList_append_own _ rfl (.tmp 32) (.tmp 43) 22 rfl w.heap.size 39 i0 (.agg #[.int .i64 0, .int .i64 0, .int .i64 0]) 3 24 Try.underlying22 hi hz0 hz1 hz2 rfl (by decide) u7 A.length (cells A) rfl (own_drew ((HT.out.alloc _).alloc _)) ⟨wr.heap.size + 1, 0, none⟩ 1 1 [.int .i64 s, .int .i64 (o + 0), .int .i64 (Y - 0)] rfl ?qd1 ?qd2 (one3 s (o + 0) (Y - 0)) ?qd4 ?qd5 ?qd6 ?_)
            case qd1 => rfl
            case qd2 => intro j u hj; have := put_cells (wr.alloc (.cells #[.int .i64 s, .int .i64 o, .int .i64 l] 39)) s (o + 0) (Y - 0) j u hj; rw [show (wr.alloc (.cells #[.int .i64 s, .int .i64 o, .int .i64 l] 39)).heap.size = wr.heap.size + 1 from by simp] at this; first | exact this | simpa using this
            case qd4 => unfold maxLen; omega
            case qd5 => omega
            case qd6 => have := HB.out.size; simp; omega
            intro v' w2 hown2 hgrow _
            have HT2 : Hid (w2.ownsRow w.heap.size 39 3 v' (A ++ one a b T ⟨s, o, l⟩).length (cells (A ++ one a b T ⟨s, o, l⟩))) := by
              unfold Hid; rw [hG.out, cells_append]; simpa [cells, Sp.cs] using hown2
            have HB2 : Hid (Below w.heap.size w w2) := (bAlloc (bAlloc HB.out _) _).drew.grown hgrow (by have := HB.out.size; simp; omega) (fun k hk => (HT.out.lt k hk).1)
            have z2 := var_kept HT.out hgrow
            clear hown2 hgrow hX hY
            go_wp2
            go_roundw
            case rel => exact ⟨m + 1, by omega, by go_num, by rw [HE.out]; exact ⟨HT2.out, by unfold stp; first | rfl | (rw [Go.IntWalk.i64_left]), HB2.out⟩⟩
            case measure => simp [intOf]; omega
          · have hG : Hid (one a b T ⟨s, o, l⟩ = []) := by
              unfold Hid one one.a' one.b'
              rw [HX.out, HY.out]
              have e1 : max X 0 = 0 := by omega
              have e2 : min Y l = Y := by omega
              dsimp only
              rw [e1, e2, if_neg hc3]
            go_wp2
            go_region
            clear hX hY
            go_wp2
            go_roundw
            case rel => exact ⟨m + 1, by omega, by go_num, by rw [HE.out]; exact ⟨by unfold stp; dsimp only; rw [hG.out, List.append_nil]; exact own_drew (HT.out.alloc _), by unfold stp; first | rfl | (rw [Go.IntWalk.i64_left]), (bAlloc HB.out _).drew⟩⟩
            case measure => simp [intOf]; omega
      · by_cases hc2 : l < Y
        · skip
          by_cases hc3 : X < l
          · have hG : Hid (one a b T ⟨s, o, l⟩ = [⟨s, o + X, l - X⟩]) := by
              unfold Hid one one.a' one.b'
              rw [HX.out, HY.out]
              have e1 : max X 0 = X := by omega
              have e2 : min Y l = l := by omega
              dsimp only
              rw [e1, e2, if_pos hc3]
            go_wp2
            go_region
            go_wp2_with (at_builtin; refine wpList_append_own _ rfl (.tmp 32) (.tmp 43) 22 rfl w.heap.size 39 i0 (.agg #[.int .i64 0, .int .i64 0, .int .i64 0]) 3 24 Try.underlying22 hi hz0 hz1 hz2 rfl (by decide) u7 A.length (cells A) rfl (own_drew ((HT.out.alloc _).alloc _)) ⟨wr.heap.size + 1, 0, none⟩ 1 1 [.int .i64 s, .int .i64 (o + X), .int .i64 (l - X)] rfl ?qd1 ?qd2 (one3 s (o + X) (l - X)) ?qd4 ?qd5 ?qd6 ?_)
            case qd1 => rfl
            case qd2 => intro j u hj; have := put_cells (wr.alloc (.cells #[.int .i64 s, .int .i64 o, .int .i64 l] 39)) s (o + X) (l - X) j u hj; rw [show (wr.alloc (.cells #[.int .i64 s, .int .i64 o, .int .i64 l] 39)).heap.size = wr.heap.size + 1 from by simp] at this; first | exact this | simpa using this
            case qd4 => unfold maxLen; omega
            case qd5 => omega
            case qd6 => have := HB.out.size; simp; omega
            intro v' w2 hown2 hgrow _
            have HT2 : Hid (w2.ownsRow w.heap.size 39 3 v' (A ++ one a b T ⟨s, o, l⟩).length (cells (A ++ one a b T ⟨s, o, l⟩))) := by
              unfold Hid; rw [hG.out, cells_append]; simpa [cells, Sp.cs] using hown2
            have HB2 : Hid (Below w.heap.size w w2) := (bAlloc (bAlloc HB.out _) _).drew.grown hgrow (by have := HB.out.size; simp; omega) (fun k hk => (HT.out.lt k hk).1)
            have z2 := var_kept HT.out hgrow
            clear hown2 hgrow hX hY
            go_wp2
            go_roundw
            case rel => exact ⟨m + 1, by omega, by go_num, by rw [HE.out]; exact ⟨HT2.out, by unfold stp; first | rfl | (rw [Go.IntWalk.i64_left]), HB2.out⟩⟩
            case measure => simp [intOf]; omega
          · have hG : Hid (one a b T ⟨s, o, l⟩ = []) := by
              unfold Hid one one.a' one.b'
              rw [HX.out, HY.out]
              have e1 : max X 0 = X := by omega
              have e2 : min Y l = l := by omega
              dsimp only
              rw [e1, e2, if_neg hc3]
            go_wp2
            go_region
            clear hX hY
            go_wp2
            go_roundw
            case rel => exact ⟨m + 1, by omega, by go_num, by rw [HE.out]; exact ⟨by unfold stp; dsimp only; rw [hG.out, List.append_nil]; exact own_drew (HT.out.alloc _), by unfold stp; first | rfl | (rw [Go.IntWalk.i64_left]), (bAlloc HB.out _).drew⟩⟩
            case measure => simp [intOf]; omega
        · skip
          by_cases hc3 : X < Y
          · have hG : Hid (one a b T ⟨s, o, l⟩ = [⟨s, o + X, Y - X⟩]) := by
              unfold Hid one one.a' one.b'
              rw [HX.out, HY.out]
              have e1 : max X 0 = X := by omega
              have e2 : min Y l = Y := by omega
              dsimp only
              rw [e1, e2, if_pos hc3]
            go_wp2
            go_region
            go_wp2_with (at_builtin; refine wpList_append_own _ rfl (.tmp 32) (.tmp 43) 22 rfl w.heap.size 39 i0 (.agg #[.int .i64 0, .int .i64 0, .int .i64 0]) 3 24 Try.underlying22 hi hz0 hz1 hz2 rfl (by decide) u7 A.length (cells A) rfl (own_drew ((HT.out.alloc _).alloc _)) ⟨wr.heap.size + 1, 0, none⟩ 1 1 [.int .i64 s, .int .i64 (o + X), .int .i64 (Y - X)] rfl ?qd1 ?qd2 (one3 s (o + X) (Y - X)) ?qd4 ?qd5 ?qd6 ?_)
            case qd1 => rfl
            case qd2 => intro j u hj; have := put_cells (wr.alloc (.cells #[.int .i64 s, .int .i64 o, .int .i64 l] 39)) s (o + X) (Y - X) j u hj; rw [show (wr.alloc (.cells #[.int .i64 s, .int .i64 o, .int .i64 l] 39)).heap.size = wr.heap.size + 1 from by simp] at this; first | exact this | simpa using this
            case qd4 => unfold maxLen; omega
            case qd5 => omega
            case qd6 => have := HB.out.size; simp; omega
            intro v' w2 hown2 hgrow _
            have HT2 : Hid (w2.ownsRow w.heap.size 39 3 v' (A ++ one a b T ⟨s, o, l⟩).length (cells (A ++ one a b T ⟨s, o, l⟩))) := by
              unfold Hid; rw [hG.out, cells_append]; simpa [cells, Sp.cs] using hown2
            have HB2 : Hid (Below w.heap.size w w2) := (bAlloc (bAlloc HB.out _) _).drew.grown hgrow (by have := HB.out.size; simp; omega) (fun k hk => (HT.out.lt k hk).1)
            have z2 := var_kept HT.out hgrow
            clear hown2 hgrow hX hY
            go_wp2
            go_roundw
            case rel => exact ⟨m + 1, by omega, by go_num, by rw [HE.out]; exact ⟨HT2.out, by unfold stp; first | rfl | (rw [Go.IntWalk.i64_left]), HB2.out⟩⟩
            case measure => simp [intOf]; omega
          · have hG : Hid (one a b T ⟨s, o, l⟩ = []) := by
              unfold Hid one one.a' one.b'
              rw [HX.out, HY.out]
              have e1 : max X 0 = X := by omega
              have e2 : min Y l = Y := by omega
              dsimp only
              rw [e1, e2, if_neg hc3]
            go_wp2
            go_region
            clear hX hY
            go_wp2
            go_roundw
            case rel => exact ⟨m + 1, by omega, by go_num, by rw [HE.out]; exact ⟨by unfold stp; dsimp only; rw [hG.out, List.append_nil]; exact own_drew (HT.out.alloc _), by unfold stp; first | rfl | (rw [Go.IntWalk.i64_left]), (bAlloc HB.out _).drew⟩⟩
            case measure => simp [intOf]; omega
    · obtain rfl : m = L.length := by omega
      rw [List.take_length] at HT ⊢
      go_wp2
      go_ret
      exact ⟨_, rfl, HT.out, HB.out, HB.out.size⟩
end Go.Proofs.Ytjjgloioppjcaaa
