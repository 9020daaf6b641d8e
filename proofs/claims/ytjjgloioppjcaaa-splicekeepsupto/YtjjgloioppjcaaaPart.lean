/- The contract of the reference's part. -/
import Derived.Test.YtjjgloioppjcaaaIns
namespace Go.Proofs.Ytjjgloioppjcaaa
open Go.RowKit

theorem betL_append {a b : Int} : ∀ (L M : List Sp) (t : Int), betL a b t (L ++ M) = betL a b t L ++ betL a b (t + sumL L) M
  | [], M, t => by simp [betL, sumL]
  | p :: L, M, t => by
    rw [List.cons_append, betL, betL, betL_append L M, List.append_assoc, sumL, Int.add_assoc]
theorem betL_take {a b : Int} {L : List Sp} {j : Nat} {p : Sp} (h : L[j]? = some p) : betL a b 0 (L.take (j + 1)) = betL a b 0 (L.take j) ++ one0 a b (sumL (L.take j)) p := by
  obtain ⟨h1, h2⟩ := List.getElem?_eq_some_iff.1 h
  rw [List.take_succ_eq_append_getElem h1, betL_append, h2]
  simp [betL]
theorem one0_length (a b t : Int) (p : Sp) : (one0 a b t p).length ≤ 1 := by unfold one0; split <;> simp
theorem betL_length {a b : Int} : ∀ (L : List Sp) (t : Int), (betL a b t L).length ≤ L.length
  | [], t => by simp [betL]
  | p :: L, t => by
    have h1 := betL_length (a := a) (b := b) L (t + p.l)
    have h2 := one0_length a b t p
    simp only [betL, List.length_append, List.length_cons]
    omega

set_option maxRecDepth 100000 in
set_option maxHeartbeats 4000000 in
theorem part_any (ao : Option Addr) (c : Nat) (a b : Int) (L : List Sp) (w : World) (hz : L.length ≤ 1048576) (ha : 0 ≤ a ∧ a ≤ 2251799813685248) (hb0 : 0 ≤ b ∧ b ≤ 2251799813685248) (hok : Hid (okL L = true)) (hr : Hid (L = [] ∨ ∃ b off, ao = some ⟨b, off, none⟩ ∧ Row w b off L)) :
    Calls Try.prog 30 #[.slice ao L.length c, .int .i64 a, .int .i64 b] w fun e w' => Gave w.heap.size w (betL a b 0 L) e w' := by
  obtain ⟨i0, hi, hz0, hz1, hz2⟩ := info_parts info39
  obtain ⟨ha1, ha2⟩ := ha
  obtain ⟨hb1, hb2⟩ := hb0
  go_enter Try.func30, Try.ntmps30
  go_wp2
  go_loopw [7, 8, 9] (fun v z i wq => ∃ m : Nat, m ≤ L.length ∧ i = .int .i64 m ∧ wq.ownsRow w.heap.size 39 3 v (betL a b 0 (L.take m)).length (cells (betL a b 0 (L.take m))) ∧ z = .int .i64 (sumL (L.take m)) ∧ Below w.heap.size w wq) (fun _ _ i _ => L.length - (intOf i).toNat)
  case atStart => exact ⟨0, Nat.zero_le _, rfl, World.ownsRow_nil _ _ _ _, rfl, Below.refl _ _⟩
  case round =>
    obtain ⟨m, hm, rfl, h1, rfl, h2⟩ := hrel
    have HT := Hid.mk' h1
    have HB := Hid.mk' h2
    clear h1 h2
    by_cases hmt : m < L.length
    · rcases hr.out with hn | ⟨b', off, rfl, hrw⟩
      · rw [hn] at hmt; simp at hmt
      rcases hp : L[m]? with _ | ⟨s, o, l⟩
      · have := List.getElem?_eq_none_iff.1 hp; omega
      obtain ⟨r0, r1, r2⟩ := row3 (hrw.keep HB.out) hp
      have hm0 : (0 : Int) ≤ (m : Int) := by omega
      have hml : (m : Int) < (L.length : Int) := by omega
      have HE := Hid.mk' (betL_take (a := a) (b := b) hp)
      have HS := Hid.mk' (sumL_take hp)
      have hrg := (rgt_iff _).1 (okL_mem hok.out (List.mem_of_getElem? hp))
      dsimp only at hrg
      obtain ⟨hg0, hg1, hg2, hg3⟩ := hrg
      have hsb := sumL_bounds (okL_takes hok.out m)
      have hlen : (betL a b 0 (L.take m)).length ≤ m := by have h1 := betL_length (a := a) (b := b) (L.take m) 0; have h2 : (L.take m).length ≤ m := List.length_take_le _ _; omega
      have htl : (L.take m).length ≤ 1048576 := by have h2 : (L.take m).length ≤ m := List.length_take_le _ _; omega
      generalize hst : betL a b 0 (L.take m) = A at *
      generalize hsu : sumL (L.take m) = T at *
      obtain ⟨hT0, hT1⟩ := hsb
      have hT2 : T ≤ 2251799813685248 := by omega
      clear hst hsu hp hrw hr hT1 htl hg0
      by_cases hc1 : T < a
      · by_cases hc2 : b < T + l
        · skip
          by_cases hc3 : a < b
          · have hG : Hid (one0 a b T ⟨s, o, l⟩ = [⟨s, o + a - T, b - (a)⟩]) := by
              unfold Hid one0
              dsimp only
              rw [if_pos (by omega)]
              have e1 : o + max (a - T) 0 = o + a - T := by omega
              have e2 : min (b - T) l - max (a - T) 0 = b - (a) := by omega
              rw [e1, e2]
            go_wp2
            go_region
            go_wp2_with (at_builtin; refine wpList_append_own _ rfl (.tmp 39) (.tmp 52) 22 rfl w.heap.size 39 i0 (.agg #[.int .i64 0, .int .i64 0, .int .i64 0]) 3 24 Try.underlying22 hi hz0 hz1 hz2 rfl (by decide) u7 A.length (cells A) rfl (own_drew ((HT.out.alloc _).alloc _)) ⟨wr.heap.size + 1, 0, none⟩ 1 1 [.int .i64 s, .int .i64 (o + a - T), .int .i64 (b - a)] rfl ?qd1 ?qd2 (one3 s (o + a - T) (b - a)) ?qd4 ?qd5 ?qd6 ?_)
            case qd1 => rfl
            case qd2 => intro j u hj; have := put_cells (wr.alloc (.cells #[.int .i64 s, .int .i64 o, .int .i64 l] 39)) s (o + a - T) (b - a) j u hj; rw [show (wr.alloc (.cells #[.int .i64 s, .int .i64 o, .int .i64 l] 39)).heap.size = wr.heap.size + 1 from by simp] at this; first | exact this | simpa using this
            case qd4 => unfold maxLen; omega
            case qd5 => omega
            case qd6 => have := HB.out.size; simp; omega
            intro v' w2 hown2 hgrow _
            have HT2 : Hid (w2.ownsRow w.heap.size 39 3 v' (A ++ one0 a b T ⟨s, o, l⟩).length (cells (A ++ one0 a b T ⟨s, o, l⟩))) := by
              unfold Hid; rw [hG.out, cells_append]; simpa [cells, Sp.cs] using hown2
            have HB2 : Hid (Below w.heap.size w w2) := (bAlloc (bAlloc HB.out _) _).drew.grown hgrow (by have := HB.out.size; simp; omega) (fun k hk => (HT.out.lt k hk).1)
            have z2 := var_kept HT.out hgrow
            clear hown2 hgrow
            go_wp2
            go_roundw
            case rel => exact ⟨m + 1, by omega, by go_num, by rw [HE.out]; exact HT2.out, by rw [HS.out], HB2.out⟩
            case measure => simp [intOf]; omega
          · have hG : Hid (one0 a b T ⟨s, o, l⟩ = []) := by
              unfold Hid one0
              dsimp only
              rw [if_neg (by omega)]
            go_wp2
            go_region
            go_wp2
            go_roundw
            case rel => exact ⟨m + 1, by omega, by go_num, by rw [HE.out, hG.out, List.append_nil]; exact own_drew (HT.out.alloc _), by rw [HS.out], (bAlloc HB.out _).drew⟩
            case measure => simp [intOf]; omega
        · skip
          by_cases hc3 : a < T + l
          · have hG : Hid (one0 a b T ⟨s, o, l⟩ = [⟨s, o + a - T, T + l - (a)⟩]) := by
              unfold Hid one0
              dsimp only
              rw [if_pos (by omega)]
              have e1 : o + max (a - T) 0 = o + a - T := by omega
              have e2 : min (b - T) l - max (a - T) 0 = T + l - (a) := by omega
              rw [e1, e2]
            go_wp2
            go_region
            go_wp2_with (at_builtin; refine wpList_append_own _ rfl (.tmp 39) (.tmp 52) 22 rfl w.heap.size 39 i0 (.agg #[.int .i64 0, .int .i64 0, .int .i64 0]) 3 24 Try.underlying22 hi hz0 hz1 hz2 rfl (by decide) u7 A.length (cells A) rfl (own_drew ((HT.out.alloc _).alloc _)) ⟨wr.heap.size + 1, 0, none⟩ 1 1 [.int .i64 s, .int .i64 (o + a - T), .int .i64 (T + l - a)] rfl ?qd1 ?qd2 (one3 s (o + a - T) (T + l - a)) ?qd4 ?qd5 ?qd6 ?_)
            case qd1 => rfl
            case qd2 => intro j u hj; have := put_cells (wr.alloc (.cells #[.int .i64 s, .int .i64 o, .int .i64 l] 39)) s (o + a - T) (T + l - a) j u hj; rw [show (wr.alloc (.cells #[.int .i64 s, .int .i64 o, .int .i64 l] 39)).heap.size = wr.heap.size + 1 from by simp] at this; first | exact this | simpa using this
            case qd4 => unfold maxLen; omega
            case qd5 => omega
            case qd6 => have := HB.out.size; simp; omega
            intro v' w2 hown2 hgrow _
            have HT2 : Hid (w2.ownsRow w.heap.size 39 3 v' (A ++ one0 a b T ⟨s, o, l⟩).length (cells (A ++ one0 a b T ⟨s, o, l⟩))) := by
              unfold Hid; rw [hG.out, cells_append]; simpa [cells, Sp.cs] using hown2
            have HB2 : Hid (Below w.heap.size w w2) := (bAlloc (bAlloc HB.out _) _).drew.grown hgrow (by have := HB.out.size; simp; omega) (fun k hk => (HT.out.lt k hk).1)
            have z2 := var_kept HT.out hgrow
            clear hown2 hgrow
            go_wp2
            go_roundw
            case rel => exact ⟨m + 1, by omega, by go_num, by rw [HE.out]; exact HT2.out, by rw [HS.out], HB2.out⟩
            case measure => simp [intOf]; omega
          · have hG : Hid (one0 a b T ⟨s, o, l⟩ = []) := by
              unfold Hid one0
              dsimp only
              rw [if_neg (by omega)]
            go_wp2
            go_region
            go_wp2
            go_roundw
            case rel => exact ⟨m + 1, by omega, by go_num, by rw [HE.out, hG.out, List.append_nil]; exact own_drew (HT.out.alloc _), by rw [HS.out], (bAlloc HB.out _).drew⟩
            case measure => simp [intOf]; omega
      · by_cases hc2 : b < T + l
        · skip
          by_cases hc3 : T < b
          · have hG : Hid (one0 a b T ⟨s, o, l⟩ = [⟨s, o + T - T, b - (T)⟩]) := by
              unfold Hid one0
              dsimp only
              rw [if_pos (by omega)]
              have e1 : o + max (a - T) 0 = o + T - T := by omega
              have e2 : min (b - T) l - max (a - T) 0 = b - (T) := by omega
              rw [e1, e2]
            go_wp2
            go_region
            go_wp2_with (at_builtin; refine wpList_append_own _ rfl (.tmp 39) (.tmp 52) 22 rfl w.heap.size 39 i0 (.agg #[.int .i64 0, .int .i64 0, .int .i64 0]) 3 24 Try.underlying22 hi hz0 hz1 hz2 rfl (by decide) u7 A.length (cells A) rfl (own_drew ((HT.out.alloc _).alloc _)) ⟨wr.heap.size + 1, 0, none⟩ 1 1 [.int .i64 s, .int .i64 (o + T - T), .int .i64 (b - T)] rfl ?qd1 ?qd2 (one3 s (o + T - T) (b - T)) ?qd4 ?qd5 ?qd6 ?_)
            case qd1 => rfl
            case qd2 => intro j u hj; have := put_cells (wr.alloc (.cells #[.int .i64 s, .int .i64 o, .int .i64 l] 39)) s (o + T - T) (b - T) j u hj; rw [show (wr.alloc (.cells #[.int .i64 s, .int .i64 o, .int .i64 l] 39)).heap.size = wr.heap.size + 1 from by simp] at this; first | exact this | simpa using this
            case qd4 => unfold maxLen; omega
            case qd5 => omega
            case qd6 => have := HB.out.size; simp; omega
            intro v' w2 hown2 hgrow _
            have HT2 : Hid (w2.ownsRow w.heap.size 39 3 v' (A ++ one0 a b T ⟨s, o, l⟩).length (cells (A ++ one0 a b T ⟨s, o, l⟩))) := by
              unfold Hid; rw [hG.out, cells_append]; simpa [cells, Sp.cs] using hown2
            have HB2 : Hid (Below w.heap.size w w2) := (bAlloc (bAlloc HB.out _) _).drew.grown hgrow (by have := HB.out.size; simp; omega) (fun k hk => (HT.out.lt k hk).1)
            have z2 := var_kept HT.out hgrow
            clear hown2 hgrow
            go_wp2
            go_roundw
            case rel => exact ⟨m + 1, by omega, by go_num, by rw [HE.out]; exact HT2.out, by rw [HS.out], HB2.out⟩
            case measure => simp [intOf]; omega
          · have hG : Hid (one0 a b T ⟨s, o, l⟩ = []) := by
              unfold Hid one0
              dsimp only
              rw [if_neg (by omega)]
            go_wp2
            go_region
            go_wp2
            go_roundw
            case rel => exact ⟨m + 1, by omega, by go_num, by rw [HE.out, hG.out, List.append_nil]; exact own_drew (HT.out.alloc _), by rw [HS.out], (bAlloc HB.out _).drew⟩
            case measure => simp [intOf]; omega
        · skip
          by_cases hc3 : T < T + l
          · have hG : Hid (one0 a b T ⟨s, o, l⟩ = [⟨s, o + T - T, T + l - (T)⟩]) := by
              unfold Hid one0
              dsimp only
              rw [if_pos (by omega)]
              have e1 : o + max (a - T) 0 = o + T - T := by omega
              have e2 : min (b - T) l - max (a - T) 0 = T + l - (T) := by omega
              rw [e1, e2]
            go_wp2
            go_region
            go_wp2_with (at_builtin; refine wpList_append_own _ rfl (.tmp 39) (.tmp 52) 22 rfl w.heap.size 39 i0 (.agg #[.int .i64 0, .int .i64 0, .int .i64 0]) 3 24 Try.underlying22 hi hz0 hz1 hz2 rfl (by decide) u7 A.length (cells A) rfl (own_drew ((HT.out.alloc _).alloc _)) ⟨wr.heap.size + 1, 0, none⟩ 1 1 [.int .i64 s, .int .i64 (o + T - T), .int .i64 (T + l - T)] rfl ?qd1 ?qd2 (one3 s (o + T - T) (T + l - T)) ?qd4 ?qd5 ?qd6 ?_)
            case qd1 => rfl
            case qd2 => intro j u hj; have := put_cells (wr.alloc (.cells #[.int .i64 s, .int .i64 o, .int .i64 l] 39)) s (o + T - T) (T + l - T) j u hj; rw [show (wr.alloc (.cells #[.int .i64 s, .int .i64 o, .int .i64 l] 39)).heap.size = wr.heap.size + 1 from by simp] at this; first | exact this | simpa using this
            case qd4 => unfold maxLen; omega
            case qd5 => omega
            case qd6 => have := HB.out.size; simp; omega
            intro v' w2 hown2 hgrow _
            have HT2 : Hid (w2.ownsRow w.heap.size 39 3 v' (A ++ one0 a b T ⟨s, o, l⟩).length (cells (A ++ one0 a b T ⟨s, o, l⟩))) := by
              unfold Hid; rw [hG.out, cells_append]; simpa [cells, Sp.cs] using hown2
            have HB2 : Hid (Below w.heap.size w w2) := (bAlloc (bAlloc HB.out _) _).drew.grown hgrow (by have := HB.out.size; simp; omega) (fun k hk => (HT.out.lt k hk).1)
            have z2 := var_kept HT.out hgrow
            clear hown2 hgrow
            go_wp2
            go_roundw
            case rel => exact ⟨m + 1, by omega, by go_num, by rw [HE.out]; exact HT2.out, by rw [HS.out], HB2.out⟩
            case measure => simp [intOf]; omega
          · have hG : Hid (one0 a b T ⟨s, o, l⟩ = []) := by
              unfold Hid one0
              dsimp only
              rw [if_neg (by omega)]
            go_wp2
            go_region
            go_wp2
            go_roundw
            case rel => exact ⟨m + 1, by omega, by go_num, by rw [HE.out, hG.out, List.append_nil]; exact own_drew (HT.out.alloc _), by rw [HS.out], (bAlloc HB.out _).drew⟩
            case measure => simp [intOf]; omega
    · obtain rfl : m = L.length := by omega
      rw [List.take_length] at HT ⊢
      go_wp2
      go_ret
      exact ⟨_, rfl, HT.out, HB.out, HB.out.size⟩
end Go.Proofs.Ytjjgloioppjcaaa
