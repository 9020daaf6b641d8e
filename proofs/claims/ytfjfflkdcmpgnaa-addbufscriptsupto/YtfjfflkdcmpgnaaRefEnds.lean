/- The contracts of quoinref01.ends, Byte, Lines and LineAt. -/
import Derived.Test.YtfjfflkdcmpgnaaRefHolds
namespace Go.Proofs.Ytfjfflkdcmpgnaa
open Go.RowKit

/-- the places of the line ends among the first j bytes -/
def endsTo (C : List UInt8) (j : Nat) : List Nat := (List.range j).filter fun i => ((at8 C i).toNat : Int) == 10
theorem endsTo_succ (C : List UInt8) (j : Nat) : endsTo C (j + 1) = endsTo C j ++ if (((at8 C j).toNat : Int) == 10) = true then [j] else [] := by
  unfold endsTo
  rw [List.range_succ, List.filter_append]
  cases h : (((at8 C j).toNat : Int) == 10) <;> simp [h]
theorem endsTo_length (C : List UInt8) (j : Nat) (h : j ≤ C.length) : (endsTo C j).length = nl (C.take j) := by
  induction j with
  | zero => simp [endsTo, nl]
  | succ j ih =>
    have hj : j < C.length := by omega
    rw [endsTo_succ, List.length_append, ih (by omega), nl_take C j hj, at8_eq hj]
    split <;> simp
theorem endsTo_at (C : List UInt8) (j n : Nat) (hj : j ≤ C.length) (hn : n < nl (C.take j)) :
    ∃ q, (endsTo C j)[n]? = some q ∧ ∃ hq : q < C.length, ((C[q].toNat : Int) == 10) = true ∧ nl (C.take q) = n := by
  induction j with
  | zero => simp [nl] at hn
  | succ j ih =>
    have hj' : j < C.length := by omega
    have hl := endsTo_length C j (by omega)
    rw [endsTo_succ]
    rw [nl_take C j hj'] at hn
    rcases Nat.lt_or_ge n (nl (C.take j)) with h | h
    · obtain ⟨q, h1, h2⟩ := ih (by omega) h
      exact ⟨q, by rw [List.getElem?_append_left (by omega)]; exact h1, h2⟩
    · cases h10 : ((C[j].toNat : Int) == 10) with
      | false => rw [h10] at hn; simp at hn; omega
      | true =>
        rw [h10] at hn
        simp at hn
        have hnn : n = nl (C.take j) := by omega
        refine ⟨j, ?_, hj', h10, hnn.symm⟩
        rw [at8_eq hj', h10, List.getElem?_append_right (by omega), hl, hnn]
        simp

theorem info3 : (Try.prog.info? 3).map (fun i => (i.zero, i.size, i.bytes)) = some (some (.int .i64 0), 1, 8) := by kernel_rfl
def iv (l : List Nat) : List Value := l.map fun (n : Nat) => Value.int .i64 (n : Int)

set_option maxRecDepth 100000 in
set_option maxHeartbeats 1000000 in
theorem ends_any (ao : Option Addr) (c : Nat) (C : List UInt8) (w : World) (hbig : C.length ≤ 4398046511104) (hr : Hid (RdB w (.slice ao C.length c) C)) :
    Calls Try.prog 37 #[.slice ao C.length c] w fun e w' => ∃ ae ce, e = .returned (.slice ae (nl C) ce) ∧ w'.ownsRow w.heap.size 3 1 (.slice ae (nl C) ce) (nl C) (iv (endsTo C C.length)) ∧ Below w.heap.size w w' := by
  obtain ⟨i0, hi, hz0, hz1, hz2⟩ := info_parts info3
  go_enter Try.func37, Try.ntmps37
  go_wp2_with fail
  go_loopw [3, 4] (fun v i wr => ∃ j : Nat, j ≤ C.length ∧ i = .int .i64 j ∧ wr.ownsRow w.heap.size 3 1 v (nl (C.take j)) (iv (endsTo C j)) ∧ Below w.heap.size w wr) (fun _ i _ => C.length - (intOf i).toNat)
  case atStart => exact ⟨0, Nat.zero_le _, rfl, (by rw [show nl (C.take 0) = 0 from by simp [nl], show endsTo C 0 = [] from by simp [endsTo]]; exact World.ownsRow_nil _ _ _ _), Below.refl _ _⟩
  case round =>
    obtain ⟨j, hj, rfl, hown, hb⟩ := hrel
    have HW : Hid (wr.ownsRow w.heap.size 3 1 u3 (nl (C.take j)) (iv (endsTo C j))) := hown
    have HB : Hid (Below w.heap.size w wr) := hb
    clear hown hb
    by_cases hlt : j < C.length
    · rcases (hr.out.keep HB.out) with ⟨_, hn⟩ | ⟨g, off, c', hv, hcell⟩
      · rw [hn] at hlt; simp at hlt
      have hao : ao = some ⟨g, off, none⟩ := by simp at hv; exact hv.1
      subst hao
      have hc0 := hcell j _ (bv_at _ j hlt)
      rw [← at8_eq hlt] at hc0
      have hj0 : (0 : Int) ≤ (j : Int) := by omega
      have hjl : (j : Int) < (C.length : Int) := by omega
      have hnl : nl (C.take j) ≤ j := by have h1 := nl_le (C.take j); have h2 : (C.take j).length ≤ j := List.length_take_le _ _; omega
      clear hcell hv
      cases h10 : (((at8 C j).toNat : Int) == 10) with
      | false =>
        have HN : Hid (nl (C.take (j + 1)) = nl (C.take j) ∧ endsTo C (j + 1) = endsTo C j) := by
          have h1 := nl_take C j hlt
          rw [← at8_eq hlt, h10] at h1
          have h2 := endsTo_succ C j
          rw [h10] at h2
          exact ⟨by simpa using h1, by simpa using h2⟩
        go_wp2
        go_roundw
        case rel => exact ⟨j + 1, by omega, by go_num, by rw [HN.out.1, HN.out.2]; exact HW.out, HB.out⟩
        case measure => simp [intOf]; omega
      | true =>
        have HN : Hid (nl (C.take (j + 1)) = nl (C.take j) + 1 ∧ endsTo C (j + 1) = endsTo C j ++ [j]) := by
          have h1 := nl_take C j hlt
          rw [← at8_eq hlt, h10] at h1
          have h2 := endsTo_succ C j
          rw [h10] at h2
          exact ⟨by simpa using h1, by simpa using h2⟩
        go_wp2_with (at_builtin; refine wpList_append_own _ rfl (.tmp 16) (.tmp 18) 74 rfl w.heap.size 3 i0 (.int .i64 0) 1 8 Try.underlying74 hi hz0 hz1 hz2 rfl (by decide) u3 (nl (C.take j)) (iv (endsTo C j)) rfl (HW.out.alloc _) ⟨wr.heap.size, 0, none⟩ 1 1 [.int .i64 (j : Int)] rfl rfl ?qd2 ?qd3 ?qd4 ?qd5 ?qd6 ?_)
        case qd2 => exact fun k u hk => lit_cells wr _ 3 k u hk
        case qd3 => intro u hu; simp at hu; rw [hu]; rfl
        case qd4 => unfold maxLen; omega
        case qd5 => omega
        case qd6 => have := HB.out.size; simp; omega
        intro v' w2 hown hgrow _
        have HW2 : Hid (w2.ownsRow w.heap.size 3 1 v' (nl (C.take (j + 1))) (iv (endsTo C (j + 1)))) := by
          unfold Hid
          rw [HN.out.1, HN.out.2]
          unfold iv at *
          simpa using hown
        have HB2 : Hid (Below w.heap.size w w2) := (bAlloc HB.out _).grown hgrow (by have := HB.out.size; simp; omega) (fun k hk => (HW.out.lt k hk).1)
        clear hown hgrow
        go_wp2
        go_roundw
        case rel => exact ⟨j + 1, by omega, by go_num, HW2.out, HB2.out⟩
        case measure => simp [intOf]; omega
    · obtain rfl : j = C.length := by omega
      rw [List.take_length] at HW
      obtain ⟨ae, ce, rfl⟩ := own_shape HW.out
      go_wp2
      go_ret
      exact ⟨ae, ce, rfl, HW.out, HB.out⟩
end Go.Proofs.Ytfjfflkdcmpgnaa
