/- The contracts of Runs, the program's and the reference's. -/
import Derived.Test.YtcjlkcpmljddfaaRws
import Derived.Deep.QuietTactic
import Derived.BigQuiet
namespace Go.Proofs.Ytcjlkcpmljddfaa
open Go.RowKit

theorem info3 : (Try.prog.info? 3).map (fun i => (i.zero, i.size, i.bytes)) = some (some (.int .i64 0), 1, 8) := by kernel_rfl
theorem below_drewN (w : World) (n : Nat) : Below w.heap.size w (w.drewN n) := ⟨rfl, rfl, rfl, Nat.le_refl _, fun _ _ => rfl⟩
theorem iv_snoc' (l : List Nat) (k : Nat) : iv (l ++ [k + 1]) = iv l ++ [.int .i64 ((k : Int) + 1)] := by simp [iv]

set_option maxHeartbeats 2000000 in
theorem runs_any (ao : Option Addr) (n c : Nat) (l : List UInt8) (big : Bool) (w : World) (hn : n ≤ 4398046511104) (HT : Hid (Tx w ao n c l)) :
    Calls Try.prog 21 #[.slice ao n c, .bool big] w fun e w' => ∃ v, e = .returned v ∧ w'.ownsRow w.heap.size 3 1 v (rn (kn l big) n n).length (iv (rn (kn l big) n n)) ∧ Below w.heap.size w w' := by
  obtain ⟨i3, hi3, hz3, hs3, hb3⟩ := info_parts info3
  go_enter Try.func21, Try.ntmps21
  go_wp2_with fail
  go_loopw [5, 9] (fun u v wr => ∃ k : Nat, v = .int .i64 k ∧ k ≤ n ∧ wr.ownsRow w.heap.size 3 1 u (rn (kn l big) n k).length (iv (rn (kn l big) n k)) ∧ Below w.heap.size w wr) (fun _ v _ => n - (intOf v).toNat)
  case atStart => exact ⟨0, rfl, Nat.zero_le _, World.ownsRow_nil _ _ _ _, Below.refl _ _⟩
  case round =>
    obtain ⟨k, rfl, hk, hO, hB⟩ := hrel
    have HO := Hid.mk' hO
    have HB := Hid.mk' hB
    have HR := Hid.mk' (rn_len (kn l big) n k)
    clear hO hB
    by_cases hlt : k < n
    · have hk0 : (0 : Int) ≤ (k : Int) := by omega
      have hk1 : (k : Int) < (n : Int) := by omega
      have hkm : (k : Int) ≤ 4398046511104 := by omega
      obtain ⟨g, o, rfl, hc⟩ := (HT.out.keep HB.out).at (by omega)
      have c1 := hc k hlt
      obtain ⟨ax, cx, hu⟩ := own_shape HO.out
      subst hu
      by_cases hend : k + 1 = n
      · have he : ((k : Int) + 1 == (n : Int)) = true := by simp; omega
        have HC : Hid (rn (kn l big) n (k + 1) = rn (kn l big) n k ++ [k + 1]) := rn_yes (decide_eq_true (.inl hend))
        clear hc
        go_wp2
        go_quiet (fail)
        have B9 := Hid.mk' (below_drewN wr nq)
        generalize wr.drewN nq = w9 at *
        go_wp2_with (at_builtin; refine append_srv rfl (.tmp 33) (.tmp 36) 29 rfl w.heap.size 3 i3 (.int .i64 0) 1 8 Try.underlying29 hi3 hz3 hs3 hb3 rfl (by decide) (.slice ax (rn (kn l big) n k).length cx) (rn (kn l big) n k).length (iv (rn (kn l big) n k)) rfl ((own_keep HO.out B9.out).alloc _) (.slice (some ⟨w9.heap.size, 0, none⟩) 1 1) 1 [.int .i64 ((k : Int) + 1)] rfl (.inr ⟨⟨w9.heap.size, 0, none⟩, 1, rfl, fun j t hj => lit_cells w9 _ 3 j t hj⟩) rfl ?r1 ?r2 ?r3 ?r4 ?_)
        case r1 => intro u hu; simp at hu; subst hu; rfl
        case r2 => have := HR.out; unfold maxLen; omega
        case r3 => have := HR.out; omega
        case r4 => have := HB.out.size; have := B9.out.size; simp; omega
        intro v2 w3 hown2 hgrow2 hfr2
        have B3 : Hid (Below w.heap.size w w3) := ((bT HB.out B9.out).alloc (Nat.le_trans HB.out.size B9.out.size) _).grown hgrow2 (by have := HB.out.size; have := B9.out.size; simp; omega) (fun k hk => (HO.out.lt k hk).1)
        rw [← iv_snoc' _ k] at hown2
        have O3 : Hid (w3.ownsRow w.heap.size 3 1 v2 (rn (kn l big) n (k + 1)).length (iv (rn (kn l big) n (k + 1)))) := by unfold Hid; rw [HC.out]; simpa using hown2
        clear hown2 hgrow2 hfr2 HO HB B9
        go_wp2
        go_roundw
        case rel => exact ⟨k + 1, by go_num, by omega, O3.out, B3.out⟩
        case measure => simp [intOf]; omega
      · have hw1 : IntKind.i64.wrap ((k : Int) + 1) = (k : Int) + 1 := by rw [IntKind.wrap_i64]; omega
        have he : ((k : Int) + 1 == (n : Int)) = false := by simp; omega
        have he0 : (0 : Int) ≤ (k : Int) + 1 := by omega
        have he1 : (k : Int) + 1 < (n : Int) := by omega
        have c2 := hc (k + 1) (by omega)
        clear hc
        by_cases hK : kn l big k = kn l big (k + 1)
        · have hk9 : (kd ((at8 l k).toNat : Int) big != kd ((at8 l (k + 1)).toNat : Int) big) = false := by
            have : kd ((at8 l k).toNat : Int) big = kd ((at8 l (k + 1)).toNat : Int) big := hK
            rw [this]; simp
          have HC : Hid (rn (kn l big) n (k + 1) = rn (kn l big) n k) := rn_no (decide_eq_false (fun h => by rcases h with h | h; exact hend h; exact h hK))
          go_wp2
          go_quiet ((go_at_call 9; exact Calls.quiet_of_same (of_any _ _ _)))
          have B9 := Hid.mk' (below_drewN wr nq)
          generalize wr.drewN nq = w9 at *
          go_wp2
          go_roundw
          case rel => exact ⟨k + 1, by go_num, by omega, by rw [HC.out]; exact own_keep HO.out B9.out, bT HB.out B9.out⟩
          case measure => simp [intOf]; omega
        · have hk9 : (kd ((at8 l k).toNat : Int) big != kd ((at8 l (k + 1)).toNat : Int) big) = true := by
            rw [bne_iff_ne]; exact hK
          have HC : Hid (rn (kn l big) n (k + 1) = rn (kn l big) n k ++ [k + 1]) := rn_yes (decide_eq_true (.inr hK))
          go_wp2
          go_quiet ((go_at_call 9; exact Calls.quiet_of_same (of_any _ _ _)))
          have B9 := Hid.mk' (below_drewN wr nq)
          generalize wr.drewN nq = w9 at *
          go_wp2_with (at_builtin; refine append_srv rfl (.tmp 33) (.tmp 36) 29 rfl w.heap.size 3 i3 (.int .i64 0) 1 8 Try.underlying29 hi3 hz3 hs3 hb3 rfl (by decide) (.slice ax (rn (kn l big) n k).length cx) (rn (kn l big) n k).length (iv (rn (kn l big) n k)) rfl ((own_keep HO.out B9.out).alloc _) (.slice (some ⟨w9.heap.size, 0, none⟩) 1 1) 1 [.int .i64 ((k : Int) + 1)] rfl (.inr ⟨⟨w9.heap.size, 0, none⟩, 1, rfl, fun j t hj => lit_cells w9 _ 3 j t hj⟩) rfl ?r1 ?r2 ?r3 ?r4 ?_)
          case r1 => intro u hu; simp at hu; subst hu; rfl
          case r2 => have := HR.out; unfold maxLen; omega
          case r3 => have := HR.out; omega
          case r4 => have := HB.out.size; have := B9.out.size; simp; omega
          intro v2 w3 hown2 hgrow2 hfr2
          have B3 : Hid (Below w.heap.size w w3) := ((bT HB.out B9.out).alloc (Nat.le_trans HB.out.size B9.out.size) _).grown hgrow2 (by have := HB.out.size; have := B9.out.size; simp; omega) (fun k hk => (HO.out.lt k hk).1)
          rw [← iv_snoc' _ k] at hown2
          have O3 : Hid (w3.ownsRow w.heap.size 3 1 v2 (rn (kn l big) n (k + 1)).length (iv (rn (kn l big) n (k + 1)))) := by unfold Hid; rw [HC.out]; simpa using hown2
          clear hown2 hgrow2 hfr2 HO HB B9
          go_wp2
          go_roundw
          case rel => exact ⟨k + 1, by go_num, by omega, O3.out, B3.out⟩
          case measure => simp [intOf]; omega
    · have hk1 : ¬ (k : Int) < (n : Int) := by omega
      obtain rfl : k = n := by omega
      go_wp2
      go_ret
      exact ⟨_, rfl, HO.out, HB.out⟩

set_option maxHeartbeats 2000000 in
theorem rruns_any (ao : Option Addr) (n c : Nat) (l : List UInt8) (big : Bool) (w : World) (hn : n ≤ 4398046511104) (HT : Hid (Tx w ao n c l)) :
    Calls Try.prog 19 #[.slice ao n c, .bool big] w fun e w' => ∃ v, e = .returned v ∧ w'.ownsRow w.heap.size 3 1 v (rn (kn l big) n n).length (iv (rn (kn l big) n n)) ∧ Below w.heap.size w w' := by
  obtain ⟨i3, hi3, hz3, hs3, hb3⟩ := info_parts info3
  go_enter Try.func19, Try.ntmps19
  go_wp2_with fail
  go_loopw [5, 6] (fun u v wr => ∃ k : Nat, v = .int .i64 k ∧ k ≤ n ∧ wr.ownsRow w.heap.size 3 1 u (rn (kn l big) n k).length (iv (rn (kn l big) n k)) ∧ Below w.heap.size w wr) (fun _ v _ => n - (intOf v).toNat)
  case atStart => exact ⟨0, rfl, Nat.zero_le _, World.ownsRow_nil _ _ _ _, Below.refl _ _⟩
  case round =>
    obtain ⟨k, rfl, hk, hO, hB⟩ := hrel
    have HO := Hid.mk' hO
    have HB := Hid.mk' hB
    have HR := Hid.mk' (rn_len (kn l big) n k)
    clear hO hB
    by_cases hlt : k < n
    · have hk0 : (0 : Int) ≤ (k : Int) := by omega
      have hk1 : (k : Int) < (n : Int) := by omega
      have hkm : (k : Int) ≤ 4398046511104 := by omega
      obtain ⟨g, o, rfl, hc⟩ := (HT.out.keep HB.out).at (by omega)
      have c1 := hc k hlt
      obtain ⟨ax, cx, hu⟩ := own_shape HO.out
      subst hu
      by_cases hend : k + 1 = n
      · have he : ((k : Int) + 1 == (n : Int)) = true := by simp; omega
        have HC : Hid (rn (kn l big) n (k + 1) = rn (kn l big) n k ++ [k + 1]) := rn_yes (decide_eq_true (.inl hend))
        clear hc
        go_wp2
        go_quiet (fail)
        have B9 := Hid.mk' (below_drewN wr nq)
        generalize wr.drewN nq = w9 at *
        go_wp2_with (at_builtin; refine append_srv rfl (.tmp 34) (.tmp 37) 29 rfl w.heap.size 3 i3 (.int .i64 0) 1 8 Try.underlying29 hi3 hz3 hs3 hb3 rfl (by decide) (.slice ax (rn (kn l big) n k).length cx) (rn (kn l big) n k).length (iv (rn (kn l big) n k)) rfl ((own_keep HO.out B9.out).alloc _) (.slice (some ⟨w9.heap.size, 0, none⟩) 1 1) 1 [.int .i64 ((k : Int) + 1)] rfl (.inr ⟨⟨w9.heap.size, 0, none⟩, 1, rfl, fun j t hj => lit_cells w9 _ 3 j t hj⟩) rfl ?r1 ?r2 ?r3 ?r4 ?_)
        case r1 => intro u hu; simp at hu; subst hu; rfl
        case r2 => have := HR.out; unfold maxLen; omega
        case r3 => have := HR.out; omega
        case r4 => have := HB.out.size; have := B9.out.size; simp; omega
        intro v2 w3 hown2 hgrow2 hfr2
        have B3 : Hid (Below w.heap.size w w3) := ((bT HB.out B9.out).alloc (Nat.le_trans HB.out.size B9.out.size) _).grown hgrow2 (by have := HB.out.size; have := B9.out.size; simp; omega) (fun k hk => (HO.out.lt k hk).1)
        rw [← iv_snoc' _ k] at hown2
        have O3 : Hid (w3.ownsRow w.heap.size 3 1 v2 (rn (kn l big) n (k + 1)).length (iv (rn (kn l big) n (k + 1)))) := by unfold Hid; rw [HC.out]; simpa using hown2
        clear hown2 hgrow2 hfr2 HO HB B9
        go_wp2
        go_roundw
        case rel => exact ⟨k + 1, by go_num, by omega, O3.out, B3.out⟩
        case measure => simp [intOf]; omega
      · have hw1 : IntKind.i64.wrap ((k : Int) + 1) = (k : Int) + 1 := by rw [IntKind.wrap_i64]; omega
        have he : ((k : Int) + 1 == (n : Int)) = false := by simp; omega
        have he0 : (0 : Int) ≤ (k : Int) + 1 := by omega
        have he1 : (k : Int) + 1 < (n : Int) := by omega
        have c2 := hc (k + 1) (by omega)
        clear hc
        by_cases hK : kn l big k = kn l big (k + 1)
        · have hk9 : (kd ((at8 l k).toNat : Int) big != kd ((at8 l (k + 1)).toNat : Int) big) = false := by
            have : kd ((at8 l k).toNat : Int) big = kd ((at8 l (k + 1)).toNat : Int) big := hK
            rw [this]; simp
          have HC : Hid (rn (kn l big) n (k + 1) = rn (kn l big) n k) := rn_no (decide_eq_false (fun h => by rcases h with h | h; exact hend h; exact h hK))
          go_wp2
          go_quiet ((go_at_call 10; exact Calls.quiet_of_same (rof_any _ _ _)))
          have B9 := Hid.mk' (below_drewN wr nq)
          generalize wr.drewN nq = w9 at *
          go_wp2
          go_roundw
          case rel => exact ⟨k + 1, by go_num, by omega, by rw [HC.out]; exact own_keep HO.out B9.out, bT HB.out B9.out⟩
          case measure => simp [intOf]; omega
        · have hk9 : (kd ((at8 l k).toNat : Int) big != kd ((at8 l (k + 1)).toNat : Int) big) = true := by
            rw [bne_iff_ne]; exact hK
          have HC : Hid (rn (kn l big) n (k + 1) = rn (kn l big) n k ++ [k + 1]) := rn_yes (decide_eq_true (.inr hK))
          go_wp2
          go_quiet ((go_at_call 10; exact Calls.quiet_of_same (rof_any _ _ _)))
          have B9 := Hid.mk' (below_drewN wr nq)
          generalize wr.drewN nq = w9 at *
          go_wp2_with (at_builtin; refine append_srv rfl (.tmp 34) (.tmp 37) 29 rfl w.heap.size 3 i3 (.int .i64 0) 1 8 Try.underlying29 hi3 hz3 hs3 hb3 rfl (by decide) (.slice ax (rn (kn l big) n k).length cx) (rn (kn l big) n k).length (iv (rn (kn l big) n k)) rfl ((own_keep HO.out B9.out).alloc _) (.slice (some ⟨w9.heap.size, 0, none⟩) 1 1) 1 [.int .i64 ((k : Int) + 1)] rfl (.inr ⟨⟨w9.heap.size, 0, none⟩, 1, rfl, fun j t hj => lit_cells w9 _ 3 j t hj⟩) rfl ?r1 ?r2 ?r3 ?r4 ?_)
          case r1 => intro u hu; simp at hu; subst hu; rfl
          case r2 => have := HR.out; unfold maxLen; omega
          case r3 => have := HR.out; omega
          case r4 => have := HB.out.size; have := B9.out.size; simp; omega
          intro v2 w3 hown2 hgrow2 hfr2
          have B3 : Hid (Below w.heap.size w w3) := ((bT HB.out B9.out).alloc (Nat.le_trans HB.out.size B9.out.size) _).grown hgrow2 (by have := HB.out.size; have := B9.out.size; simp; omega) (fun k hk => (HO.out.lt k hk).1)
          rw [← iv_snoc' _ k] at hown2
          have O3 : Hid (w3.ownsRow w.heap.size 3 1 v2 (rn (kn l big) n (k + 1)).length (iv (rn (kn l big) n (k + 1)))) := by unfold Hid; rw [HC.out]; simpa using hown2
          clear hown2 hgrow2 hfr2 HO HB B9
          go_wp2
          go_roundw
          case rel => exact ⟨k + 1, by go_num, by omega, O3.out, B3.out⟩
          case measure => simp [intOf]; omega
    · have hk1 : ¬ (k : Int) < (n : Int) := by omega
      obtain rfl : k = n := by omega
      go_wp2
      go_ret
      exact ⟨_, rfl, HO.out, HB.out⟩
end Go.Proofs.Ytcjlkcpmljddfaa
