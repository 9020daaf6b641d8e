/- The reference's Quote. -/
import Derived.Test.YtaakgoojcogbcaaXh
import Derived.Laws.MakeOwn
namespace Go.Proofs.Ytaakgoojcogbcaa
open Go.RowKit
theorem spc_seven {b : UInt8} (h : spc b = true) : (b.toNat : Int) = 92 ∨ (b.toNat : Int) = 46 ∨ (b.toNat : Int) = 42 ∨ (b.toNat : Int) = 91 ∨ (b.toNat : Int) = 93 ∨ (b.toNat : Int) = 94 ∨ (b.toNat : Int) = 36 := by
  unfold spc at h
  simp only [Bool.or_eq_true, beq_iff_eq] at h
  rcases h with (((((h | h) | h) | h) | h) | h) | h <;> subst h <;> simp
theorem run_room (n : Nat) (hn : n ≤ 70368744177664) : ∃ (C : Nat) (CS : Array Value), CS.size = C * 1 ∧ C ≤ 140737488355328 ∧ ∀ W : World, (Instr.makeSlice 22 (.int .i64 0) (.int .i64 (2 * (n : Int)))).run Try.prog W = .ok (.slice (some ⟨W.heap.size, 0, none⟩) 0 C) (W.alloc (.cells CS 5)) := by
  obtain ⟨i0, hi, hz0, hz1, hz2⟩ := infoB
  refine ⟨(2 * (n : Int)).toNat, madeCells (Value.int .u8 0).cells (2 * (n : Int)).toNat, by simp [madeCells], by omega, fun W => ?_⟩
  have := run_make (P := Try.prog) W 22 5 i0 (.int .u8 0) Try.underlying22 hi hz0 .i64 .i64 0 (2 * (n : Int)) (by omega) (by omega) (by rw [hz2]; omega) (by omega)
  rw [hz1, Nat.mul_one] at this
  exact this
set_option maxRecDepth 8000 in
set_option maxHeartbeats 8000000 in
theorem rquote_any (W : World) (ao : Option Addr) (n c : Nat) (s : List UInt8) (hn : n ≤ 70368744177664) (HT : Hid (Tx W ao n c s)) :
    Calls Try.prog 29 #[.slice ao n c] W fun e W' => QuoP s W e W' := by
  obtain ⟨i0, hi, hz0, hz1, hz2⟩ := infoB
  have hlen := HT.out.len
  obtain ⟨CC, CS, hCS, hCC, hmk⟩ := run_room n hn
  go_enter Try.func29, Try.ntmps29
  go_wp2
  have O0 : Hid ((W.alloc (.cells CS 5)).ownsRow W.heap.size 5 1 (.slice (some ⟨W.heap.size, 0, none⟩) 0 CC) 0 []) := ⟨rfl, .inr ⟨W.heap.size, CC, CS, rfl, Nat.le_refl _, heap_alloc_new _ _, Nat.zero_le _, by unfold maxLen; omega, hCS, rfl⟩⟩
  have B0 : Hid (Below W.heap.size W (W.alloc (.cells CS 5))) := bAlloc (Below.refl _ _) _
  clear hmk hCS
  generalize W.alloc (.cells CS 5) = W1 at *
  go_loopg [3, 4, 19] n (fun m x3 x4 x19 wx => ∃ k : Nat, x4 = .int .i64 (k : Int) ∧ k + m = n ∧ Hid (wx.ownsRow W.heap.size 5 1 x3 (qt (s.take k)).length (bv (qt (s.take k)))) ∧ Hid (Below W.heap.size W wx))
  case atStart => exact ⟨0, rfl, by omega, O0.out, B0.out⟩
  case round =>
    clear O0 B0
    obtain ⟨k, rfl, hk, HO, HB⟩ := hrel
    obtain ⟨a3, c3, e3⟩ := own_shape HO.out
    subst e3
    cases gk with
    | zero =>
      have hkn : ¬ ((k : Int) < (n : Int)) := by omega
      have HK : Hid (s.take k = s) := by unfold Hid; rw [List.take_of_length_le (by omega)]
      go_wp2
      go_ret
      exact ⟨_, rfl, by have := HO.out; rw [HK.out] at this ⊢; exact this, HB.out⟩
    | succ m =>
      have hkn : (k : Int) < (n : Int) := by omega
      obtain ⟨g, o, e1, hc⟩ := HT.out.at (by omega)
      subst e1
      have HC : Hid (∀ W', Below W.heap.size W W' → W'.cell? ⟨g, o + k, none⟩ = some (.int .u8 ((at8 s k).toNat : Int))) := fun W' hb => keepC hb (hc k (by omega))
      have hq := qt_len (s.take k)
      have hql : (qt (s.take k)).length ≤ 2 * k := by rw [List.length_take] at hq; omega
      have HQ : Hid (qt (s.take (k + 1)) = qt (s.take k) ++ q1 (at8 s k)) := by unfold Hid; rw [take_at8 (by omega), qt_snoc]
      obtain ⟨b, hb⟩ : ∃ b, b = at8 s k := ⟨_, rfl⟩
      rw [← hb] at HC HQ
      clear hb hc hq
      obtain ⟨Q, hQ⟩ : ∃ Q, Q = qt (s.take k) := ⟨_, rfl⟩
      rw [← hQ] at HQ hql HO
      rw [← hQ]
      clear hQ
      cases hs : spc b with
      | true =>
        have HQ2 : Hid (qt (s.take (k + 1)) = (Q ++ [92]) ++ [b]) := by unfold Hid; rw [HQ.out]; unfold q1; rw [hs]; simp
        have h7 := spc_seven hs
        clear hs HQ
        obtain ⟨X, HX⟩ : ∃ X, Hid ((b.toNat : Int) = X) := ⟨_, rfl⟩
        rw [HX.out] at h7 HC
        have HV : Hid (bv [b] = [.int .u8 X]) := by unfold Hid; rw [← HX.out]; rfl
        clear HX
        rcases h7 with rfl | rfl | rfl | rfl | rfl | rfl | rfl
        · have cx := HC.out wr HB.out
          go_wp2_with (first | (at_builtin; refine append_srv rfl (.tmp 27) (.tmp 28) 22 rfl W.heap.size 5 i0 (.int .u8 0) 1 1 Try.underlying22 hi hz0 hz1 hz2 rfl (by decide) _ _ _ rfl (HO.out.alloc _) (.slice (some ⟨wr.heap.size, 0, none⟩) 1 1) 1 [.int .u8 92] rfl (.inr ⟨⟨wr.heap.size, 0, none⟩, 1, rfl, fun k u hk => lit_cells wr _ 5 k u hk⟩) rfl (by intro u hu; rw [List.mem_singleton.1 hu]; rfl) (by unfold maxLen; omega) (by omega) (bAlloc HB.out _).size ?_))
          intro v5 w5 hown hgrow _
          have L5 : Hid (Below W.heap.size W w5) := (bAlloc HB.out _).grown hgrow (bAlloc HB.out _).size (fun k hk => (HO.out.lt k hk).1)
          have O5 : Hid (w5.ownsRow W.heap.size 5 1 v5 (Q.length + 1) (bv (Q ++ [92]))) := by unfold Hid; rw [bv_append]; exact hown
          clear hown hgrow HO HB cx
          have cx := HC.out w5 L5.out
          obtain ⟨a5, c5, e5⟩ := own_shape O5.out
          subst e5
          go_wp2_with (first | (at_builtin; refine append_srv rfl (.tmp 30) (.tmp 35) 22 rfl W.heap.size 5 i0 (.int .u8 0) 1 1 Try.underlying22 hi hz0 hz1 hz2 rfl (by decide) _ _ _ rfl (O5.out.alloc _) (.slice (some ⟨w5.heap.size, 0, none⟩) 1 1) 1 [.int .u8 92] rfl (.inr ⟨⟨w5.heap.size, 0, none⟩, 1, rfl, fun k u hk => lit_cells w5 _ 5 k u hk⟩) rfl (by intro u hu; rw [List.mem_singleton.1 hu]; rfl) (by unfold maxLen; omega) (by omega) (bAlloc L5.out _).size ?_))
          intro v6 w6 hown hgrow _
          have L6 : Hid (Below W.heap.size W w6) := (bAlloc L5.out _).grown hgrow (bAlloc L5.out _).size (fun k hk => (O5.out.lt k hk).1)
          have O6 : Hid (w6.ownsRow W.heap.size 5 1 v6 ((Q ++ [92]) ++ [b]).length (bv ((Q ++ [92]) ++ [b]))) := by unfold Hid; rw [bv_append, HV.out, List.length_append, List.length_append]; exact hown
          clear hown hgrow O5 L5 cx
          go_wp2
          go_roundg m
          case measure => omega
          case rel => exact ⟨k + 1, by go_num, by omega, by unfold Hid; rw [HQ2.out]; exact O6.out, L6.out⟩
        · have cx := HC.out wr HB.out
          go_wp2_with (first | (at_builtin; refine append_srv rfl (.tmp 27) (.tmp 28) 22 rfl W.heap.size 5 i0 (.int .u8 0) 1 1 Try.underlying22 hi hz0 hz1 hz2 rfl (by decide) _ _ _ rfl (HO.out.alloc _) (.slice (some ⟨wr.heap.size, 0, none⟩) 1 1) 1 [.int .u8 92] rfl (.inr ⟨⟨wr.heap.size, 0, none⟩, 1, rfl, fun k u hk => lit_cells wr _ 5 k u hk⟩) rfl (by intro u hu; rw [List.mem_singleton.1 hu]; rfl) (by unfold maxLen; omega) (by omega) (bAlloc HB.out _).size ?_))
          intro v5 w5 hown hgrow _
          have L5 : Hid (Below W.heap.size W w5) := (bAlloc HB.out _).grown hgrow (bAlloc HB.out _).size (fun k hk => (HO.out.lt k hk).1)
          have O5 : Hid (w5.ownsRow W.heap.size 5 1 v5 (Q.length + 1) (bv (Q ++ [92]))) := by unfold Hid; rw [bv_append]; exact hown
          clear hown hgrow HO HB cx
          have cx := HC.out w5 L5.out
          obtain ⟨a5, c5, e5⟩ := own_shape O5.out
          subst e5
          go_wp2_with (first | (at_builtin; refine append_srv rfl (.tmp 30) (.tmp 35) 22 rfl W.heap.size 5 i0 (.int .u8 0) 1 1 Try.underlying22 hi hz0 hz1 hz2 rfl (by decide) _ _ _ rfl (O5.out.alloc _) (.slice (some ⟨w5.heap.size, 0, none⟩) 1 1) 1 [.int .u8 46] rfl (.inr ⟨⟨w5.heap.size, 0, none⟩, 1, rfl, fun k u hk => lit_cells w5 _ 5 k u hk⟩) rfl (by intro u hu; rw [List.mem_singleton.1 hu]; rfl) (by unfold maxLen; omega) (by omega) (bAlloc L5.out _).size ?_))
          intro v6 w6 hown hgrow _
          have L6 : Hid (Below W.heap.size W w6) := (bAlloc L5.out _).grown hgrow (bAlloc L5.out _).size (fun k hk => (O5.out.lt k hk).1)
          have O6 : Hid (w6.ownsRow W.heap.size 5 1 v6 ((Q ++ [92]) ++ [b]).length (bv ((Q ++ [92]) ++ [b]))) := by unfold Hid; rw [bv_append, HV.out, List.length_append, List.length_append]; exact hown
          clear hown hgrow O5 L5 cx
          go_wp2
          go_roundg m
          case measure => omega
          case rel => exact ⟨k + 1, by go_num, by omega, by unfold Hid; rw [HQ2.out]; exact O6.out, L6.out⟩
        · have cx := HC.out wr HB.out
          go_wp2_with (first | (at_builtin; refine append_srv rfl (.tmp 27) (.tmp 28) 22 rfl W.heap.size 5 i0 (.int .u8 0) 1 1 Try.underlying22 hi hz0 hz1 hz2 rfl (by decide) _ _ _ rfl (HO.out.alloc _) (.slice (some ⟨wr.heap.size, 0, none⟩) 1 1) 1 [.int .u8 92] rfl (.inr ⟨⟨wr.heap.size, 0, none⟩, 1, rfl, fun k u hk => lit_cells wr _ 5 k u hk⟩) rfl (by intro u hu; rw [List.mem_singleton.1 hu]; rfl) (by unfold maxLen; omega) (by omega) (bAlloc HB.out _).size ?_))
          intro v5 w5 hown hgrow _
          have L5 : Hid (Below W.heap.size W w5) := (bAlloc HB.out _).grown hgrow (bAlloc HB.out _).size (fun k hk => (HO.out.lt k hk).1)
          have O5 : Hid (w5.ownsRow W.heap.size 5 1 v5 (Q.length + 1) (bv (Q ++ [92]))) := by unfold Hid; rw [bv_append]; exact hown
          clear hown hgrow HO HB cx
          have cx := HC.out w5 L5.out
          obtain ⟨a5, c5, e5⟩ := own_shape O5.out
          subst e5
          go_wp2_with (first | (at_builtin; refine append_srv rfl (.tmp 30) (.tmp 35) 22 rfl W.heap.size 5 i0 (.int .u8 0) 1 1 Try.underlying22 hi hz0 hz1 hz2 rfl (by decide) _ _ _ rfl (O5.out.alloc _) (.slice (some ⟨w5.heap.size, 0, none⟩) 1 1) 1 [.int .u8 42] rfl (.inr ⟨⟨w5.heap.size, 0, none⟩, 1, rfl, fun k u hk => lit_cells w5 _ 5 k u hk⟩) rfl (by intro u hu; rw [List.mem_singleton.1 hu]; rfl) (by unfold maxLen; omega) (by omega) (bAlloc L5.out _).size ?_))
          intro v6 w6 hown hgrow _
          have L6 : Hid (Below W.heap.size W w6) := (bAlloc L5.out _).grown hgrow (bAlloc L5.out _).size (fun k hk => (O5.out.lt k hk).1)
          have O6 : Hid (w6.ownsRow W.heap.size 5 1 v6 ((Q ++ [92]) ++ [b]).length (bv ((Q ++ [92]) ++ [b]))) := by unfold Hid; rw [bv_append, HV.out, List.length_append, List.length_append]; exact hown
          clear hown hgrow O5 L5 cx
          go_wp2
          go_roundg m
          case measure => omega
          case rel => exact ⟨k + 1, by go_num, by omega, by unfold Hid; rw [HQ2.out]; exact O6.out, L6.out⟩
        · have cx := HC.out wr HB.out
          go_wp2_with (first | (at_builtin; refine append_srv rfl (.tmp 27) (.tmp 28) 22 rfl W.heap.size 5 i0 (.int .u8 0) 1 1 Try.underlying22 hi hz0 hz1 hz2 rfl (by decide) _ _ _ rfl (HO.out.alloc _) (.slice (some ⟨wr.heap.size, 0, none⟩) 1 1) 1 [.int .u8 92] rfl (.inr ⟨⟨wr.heap.size, 0, none⟩, 1, rfl, fun k u hk => lit_cells wr _ 5 k u hk⟩) rfl (by intro u hu; rw [List.mem_singleton.1 hu]; rfl) (by unfold maxLen; omega) (by omega) (bAlloc HB.out _).size ?_))
          intro v5 w5 hown hgrow _
          have L5 : Hid (Below W.heap.size W w5) := (bAlloc HB.out _).grown hgrow (bAlloc HB.out _).size (fun k hk => (HO.out.lt k hk).1)
          have O5 : Hid (w5.ownsRow W.heap.size 5 1 v5 (Q.length + 1) (bv (Q ++ [92]))) := by unfold Hid; rw [bv_append]; exact hown
          clear hown hgrow HO HB cx
          have cx := HC.out w5 L5.out
          obtain ⟨a5, c5, e5⟩ := own_shape O5.out
          subst e5
          go_wp2_with (first | (at_builtin; refine append_srv rfl (.tmp 30) (.tmp 35) 22 rfl W.heap.size 5 i0 (.int .u8 0) 1 1 Try.underlying22 hi hz0 hz1 hz2 rfl (by decide) _ _ _ rfl (O5.out.alloc _) (.slice (some ⟨w5.heap.size, 0, none⟩) 1 1) 1 [.int .u8 91] rfl (.inr ⟨⟨w5.heap.size, 0, none⟩, 1, rfl, fun k u hk => lit_cells w5 _ 5 k u hk⟩) rfl (by intro u hu; rw [List.mem_singleton.1 hu]; rfl) (by unfold maxLen; omega) (by omega) (bAlloc L5.out _).size ?_))
          intro v6 w6 hown hgrow _
          have L6 : Hid (Below W.heap.size W w6) := (bAlloc L5.out _).grown hgrow (bAlloc L5.out _).size (fun k hk => (O5.out.lt k hk).1)
          have O6 : Hid (w6.ownsRow W.heap.size 5 1 v6 ((Q ++ [92]) ++ [b]).length (bv ((Q ++ [92]) ++ [b]))) := by unfold Hid; rw [bv_append, HV.out, List.length_append, List.length_append]; exact hown
          clear hown hgrow O5 L5 cx
          go_wp2
          go_roundg m
          case measure => omega
          case rel => exact ⟨k + 1, by go_num, by omega, by unfold Hid; rw [HQ2.out]; exact O6.out, L6.out⟩
        · have cx := HC.out wr HB.out
          go_wp2_with (first | (at_builtin; refine append_srv rfl (.tmp 27) (.tmp 28) 22 rfl W.heap.size 5 i0 (.int .u8 0) 1 1 Try.underlying22 hi hz0 hz1 hz2 rfl (by decide) _ _ _ rfl (HO.out.alloc _) (.slice (some ⟨wr.heap.size, 0, none⟩) 1 1) 1 [.int .u8 92] rfl (.inr ⟨⟨wr.heap.size, 0, none⟩, 1, rfl, fun k u hk => lit_cells wr _ 5 k u hk⟩) rfl (by intro u hu; rw [List.mem_singleton.1 hu]; rfl) (by unfold maxLen; omega) (by omega) (bAlloc HB.out _).size ?_))
          intro v5 w5 hown hgrow _
          have L5 : Hid (Below W.heap.size W w5) := (bAlloc HB.out _).grown hgrow (bAlloc HB.out _).size (fun k hk => (HO.out.lt k hk).1)
          have O5 : Hid (w5.ownsRow W.heap.size 5 1 v5 (Q.length + 1) (bv (Q ++ [92]))) := by unfold Hid; rw [bv_append]; exact hown
          clear hown hgrow HO HB cx
          have cx := HC.out w5 L5.out
          obtain ⟨a5, c5, e5⟩ := own_shape O5.out
          subst e5
          go_wp2_with (first | (at_builtin; refine append_srv rfl (.tmp 30) (.tmp 35) 22 rfl W.heap.size 5 i0 (.int .u8 0) 1 1 Try.underlying22 hi hz0 hz1 hz2 rfl (by decide) _ _ _ rfl (O5.out.alloc _) (.slice (some ⟨w5.heap.size, 0, none⟩) 1 1) 1 [.int .u8 93] rfl (.inr ⟨⟨w5.heap.size, 0, none⟩, 1, rfl, fun k u hk => lit_cells w5 _ 5 k u hk⟩) rfl (by intro u hu; rw [List.mem_singleton.1 hu]; rfl) (by unfold maxLen; omega) (by omega) (bAlloc L5.out _).size ?_))
          intro v6 w6 hown hgrow _
          have L6 : Hid (Below W.heap.size W w6) := (bAlloc L5.out _).grown hgrow (bAlloc L5.out _).size (fun k hk => (O5.out.lt k hk).1)
          have O6 : Hid (w6.ownsRow W.heap.size 5 1 v6 ((Q ++ [92]) ++ [b]).length (bv ((Q ++ [92]) ++ [b]))) := by unfold Hid; rw [bv_append, HV.out, List.length_append, List.length_append]; exact hown
          clear hown hgrow O5 L5 cx
          go_wp2
          go_roundg m
          case measure => omega
          case rel => exact ⟨k + 1, by go_num, by omega, by unfold Hid; rw [HQ2.out]; exact O6.out, L6.out⟩
        · have cx := HC.out wr HB.out
          go_wp2_with (first | (at_builtin; refine append_srv rfl (.tmp 27) (.tmp 28) 22 rfl W.heap.size 5 i0 (.int .u8 0) 1 1 Try.underlying22 hi hz0 hz1 hz2 rfl (by decide) _ _ _ rfl (HO.out.alloc _) (.slice (some ⟨wr.heap.size, 0, none⟩) 1 1) 1 [.int .u8 92] rfl (.inr ⟨⟨wr.heap.size, 0, none⟩, 1, rfl, fun k u hk => lit_cells wr _ 5 k u hk⟩) rfl (by intro u hu; rw [List.mem_singleton.1 hu]; rfl) (by unfold maxLen; omega) (by omega) (bAlloc HB.out _).size ?_))
          intro v5 w5 hown hgrow _
          have L5 : Hid (Below W.heap.size W w5) := (bAlloc HB.out _).grown hgrow (bAlloc HB.out _).size (fun k hk => (HO.out.lt k hk).1)
          have O5 : Hid (w5.ownsRow W.heap.size 5 1 v5 (Q.length + 1) (bv (Q ++ [92]))) := by unfold Hid; rw [bv_append]; exact hown
          clear hown hgrow HO HB cx
          have cx := HC.out w5 L5.out
          obtain ⟨a5, c5, e5⟩ := own_shape O5.out
          subst e5
          go_wp2_with (first | (at_builtin; refine append_srv rfl (.tmp 30) (.tmp 35) 22 rfl W.heap.size 5 i0 (.int .u8 0) 1 1 Try.underlying22 hi hz0 hz1 hz2 rfl (by decide) _ _ _ rfl (O5.out.alloc _) (.slice (some ⟨w5.heap.size, 0, none⟩) 1 1) 1 [.int .u8 94] rfl (.inr ⟨⟨w5.heap.size, 0, none⟩, 1, rfl, fun k u hk => lit_cells w5 _ 5 k u hk⟩) rfl (by intro u hu; rw [List.mem_singleton.1 hu]; rfl) (by unfold maxLen; omega) (by omega) (bAlloc L5.out _).size ?_))
          intro v6 w6 hown hgrow _
          have L6 : Hid (Below W.heap.size W w6) := (bAlloc L5.out _).grown hgrow (bAlloc L5.out _).size (fun k hk => (O5.out.lt k hk).1)
          have O6 : Hid (w6.ownsRow W.heap.size 5 1 v6 ((Q ++ [92]) ++ [b]).length (bv ((Q ++ [92]) ++ [b]))) := by unfold Hid; rw [bv_append, HV.out, List.length_append, List.length_append]; exact hown
          clear hown hgrow O5 L5 cx
          go_wp2
          go_roundg m
          case measure => omega
          case rel => exact ⟨k + 1, by go_num, by omega, by unfold Hid; rw [HQ2.out]; exact O6.out, L6.out⟩
        · have cx := HC.out wr HB.out
          go_wp2_with (first | (at_builtin; refine append_srv rfl (.tmp 27) (.tmp 28) 22 rfl W.heap.size 5 i0 (.int .u8 0) 1 1 Try.underlying22 hi hz0 hz1 hz2 rfl (by decide) _ _ _ rfl (HO.out.alloc _) (.slice (some ⟨wr.heap.size, 0, none⟩) 1 1) 1 [.int .u8 92] rfl (.inr ⟨⟨wr.heap.size, 0, none⟩, 1, rfl, fun k u hk => lit_cells wr _ 5 k u hk⟩) rfl (by intro u hu; rw [List.mem_singleton.1 hu]; rfl) (by unfold maxLen; omega) (by omega) (bAlloc HB.out _).size ?_))
          intro v5 w5 hown hgrow _
          have L5 : Hid (Below W.heap.size W w5) := (bAlloc HB.out _).grown hgrow (bAlloc HB.out _).size (fun k hk => (HO.out.lt k hk).1)
          have O5 : Hid (w5.ownsRow W.heap.size 5 1 v5 (Q.length + 1) (bv (Q ++ [92]))) := by unfold Hid; rw [bv_append]; exact hown
          clear hown hgrow HO HB cx
          have cx := HC.out w5 L5.out
          obtain ⟨a5, c5, e5⟩ := own_shape O5.out
          subst e5
          go_wp2_with (first | (at_builtin; refine append_srv rfl (.tmp 30) (.tmp 35) 22 rfl W.heap.size 5 i0 (.int .u8 0) 1 1 Try.underlying22 hi hz0 hz1 hz2 rfl (by decide) _ _ _ rfl (O5.out.alloc _) (.slice (some ⟨w5.heap.size, 0, none⟩) 1 1) 1 [.int .u8 36] rfl (.inr ⟨⟨w5.heap.size, 0, none⟩, 1, rfl, fun k u hk => lit_cells w5 _ 5 k u hk⟩) rfl (by intro u hu; rw [List.mem_singleton.1 hu]; rfl) (by unfold maxLen; omega) (by omega) (bAlloc L5.out _).size ?_))
          intro v6 w6 hown hgrow _
          have L6 : Hid (Below W.heap.size W w6) := (bAlloc L5.out _).grown hgrow (bAlloc L5.out _).size (fun k hk => (O5.out.lt k hk).1)
          have O6 : Hid (w6.ownsRow W.heap.size 5 1 v6 ((Q ++ [92]) ++ [b]).length (bv ((Q ++ [92]) ++ [b]))) := by unfold Hid; rw [bv_append, HV.out, List.length_append, List.length_append]; exact hown
          clear hown hgrow O5 L5 cx
          go_wp2
          go_roundg m
          case measure => omega
          case rel => exact ⟨k + 1, by go_num, by omega, by unfold Hid; rw [HQ2.out]; exact O6.out, L6.out⟩
      | false =>
        have HQ2 : Hid (qt (s.take (k + 1)) = Q ++ [b]) := by unfold Hid; rw [HQ.out]; unfold q1; rw [hs]; simp
        obtain ⟨n1, n2, n3, n4, n5, n6, n7⟩ := spc_no hs
        clear hs HQ
        have cx := HC.out wr HB.out
        have f1 : ((b.toNat : Int) == 92) = false := beq_false_of_ne (by omega)
        have f2 : ((b.toNat : Int) == 46) = false := beq_false_of_ne (by omega)
        have f3 : ((b.toNat : Int) == 42) = false := beq_false_of_ne (by omega)
        have f4 : ((b.toNat : Int) == 91) = false := beq_false_of_ne (by omega)
        have f5 : ((b.toNat : Int) == 93) = false := beq_false_of_ne (by omega)
        have f6 : ((b.toNat : Int) == 94) = false := beq_false_of_ne (by omega)
        have f7 : ((b.toNat : Int) == 36) = false := beq_false_of_ne (by omega)
        clear n1 n2 n3 n4 n5 n6 n7
        go_wp2_with (first | (at_builtin; refine append_srv rfl (.tmp 30) (.tmp 35) 22 rfl W.heap.size 5 i0 (.int .u8 0) 1 1 Try.underlying22 hi hz0 hz1 hz2 rfl (by decide) _ _ _ rfl (HO.out.alloc _) (.slice (some ⟨wr.heap.size, 0, none⟩) 1 1) 1 [.int .u8 (b.toNat : Int)] rfl (.inr ⟨⟨wr.heap.size, 0, none⟩, 1, rfl, fun k u hk => lit_cells wr _ 5 k u hk⟩) rfl (by intro u hu; rw [List.mem_singleton.1 hu]; rfl) (by unfold maxLen; omega) (by omega) (bAlloc HB.out _).size ?_))
        intro v6 w6 hown hgrow _
        have L6 : Hid (Below W.heap.size W w6) := (bAlloc HB.out _).grown hgrow (bAlloc HB.out _).size (fun k hk => (HO.out.lt k hk).1)
        have O6 : Hid (w6.ownsRow W.heap.size 5 1 v6 (Q ++ [b]).length (bv (Q ++ [b]))) := by unfold Hid; rw [bv_append, List.length_append]; exact hown
        clear hown hgrow HO HB cx
        go_wp2
        go_roundg m
        case measure => omega
        case rel => exact ⟨k + 1, by go_num, by omega, by unfold Hid; rw [HQ2.out]; exact O6.out, L6.out⟩
end Go.Proofs.Ytaakgoojcogbcaa
