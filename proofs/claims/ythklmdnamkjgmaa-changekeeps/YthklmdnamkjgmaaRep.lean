/- slices.Insert of bytes, whole; slices.Replace of bytes. -/
import Derived.Test.YthklmdnamkjgmaaIng
namespace Go.Proofs.Ythklmdnamkjgmaa
open Go.RowKit

set_option maxRecDepth 8000
theorem insert_any (base : Nat) (v : Value) (n i : Nat) (T : List UInt8) (vo : Option Addr) (m vc : Nat) (V : List UInt8) (w : World) (H : Hid (w.ownsRow base 5 1 v n (bv T))) (HV : Hid (Tx w vo m vc V)) (HA : Hid (0 < m → ∀ a, vo = some a → a.block < base)) (hi : i ≤ n) (hm2 : m ≤ 140737488355328) (hb : n + m ≤ 150000000000000) (hbase : base ≤ w.heap.size) :
    Calls Try.prog 39 #[v, .int .i64 (i : Int), .slice vo m vc] w fun e w' => RepP base v (n + m) (T.take i ++ V ++ T.drop i) w e w' := by
  have hTl : T.length = n := by have := H.out.1; rw [bv_length] at this; omega
  have hvl := HV.out.len
  obtain ⟨ao, c, rfl⟩ := own_shape H.out
  by_cases h0 : m = 0
  · subst h0
    have : V = [] := List.eq_nil_of_length_eq_zero hvl
    subst this
    have e : T.take i ++ [] ++ T.drop i = T := by simp
    rw [e]
    exact ins_none base ao n c i T vo vc w H (by omega) hi
  · by_cases hin : i = n
    · subst hin
      have e : T.take i ++ V ++ T.drop i = T ++ V := by rw [List.take_of_length_le (by omega), List.drop_eq_nil_of_le (by omega), List.append_nil]
      rw [e]
      exact ins_end base ao i c T vo m vc V w H HV (by omega) hm2 hb hbase
    · obtain ⟨g, c', X, e, hg, hB, hX, hnc, hc, hT⟩ := blk_own H.out (by omega)
      simp only [Value.slice.injEq, true_and] at e
      obtain ⟨rfl, rfl⟩ := e
      obtain ⟨va, u, rfl, hcell⟩ := HV.out.ne (by omega)
      by_cases hroom : n + m ≤ c
      · exact ins_room base g n c i T X va m vc V w hB hX hT HV (by omega) (by omega) hroom hg hc (by have := HA.out (by omega) va rfl; unfold Hid; omega)
      · exact ins_grow base g n c i T X va m vc V w hB hX hT HV (by omega) (by omega) hnc (by omega) hb hbase
theorem so_lk (g n c lo k : Nat) {z : Int} (hn : n ≤ c) (hlo : lo ≤ n) (hz : z = (lo : Int)) (hk : k = n - lo) : ∃ a' c', (∀ W, (Instr.sliceAt 22 (.slice (some ⟨g, 0, none⟩) n c) (some (.int .i64 z)) none none).run Try.prog W = .ok (.slice (some a') k c') W) ∧ Pt g lo k a' := by
  subst hk; exact so_l g n c lo hn hlo hz
set_option maxHeartbeats 4000000 in
/-- nothing is taken out -/
theorem rep_ins (base : Nat) (v : Value) (n i : Nat) (T : List UInt8) (vo : Option Addr) (m vc : Nat) (V : List UInt8) (w : World) (H : Hid (w.ownsRow base 5 1 v n (bv T))) (HV : Hid (Tx w vo m vc V)) (HA : Hid (0 < m → ∀ a, vo = some a → a.block < base)) (hi : i ≤ n) (hm2 : m ≤ 140737488355328) (hb : n + m ≤ 150000000000000) (hbase : base ≤ w.heap.size) :
    Calls Try.prog 32 #[v, .int .i64 (i : Int), .int .i64 (i : Int), .slice vo m vc] w fun e w' => RepP base v (n + m) (T.take i ++ V ++ T.drop i) w e w' := by
  have C := Hid.mk' (insert_any base v n i T vo m vc V w H HV HA hi hm2 hb hbase)
  obtain ⟨ao, c, rfl, hT⟩ := own_tx H.out (by omega)
  obtain ⟨a1, c1, hs1, -⟩ := sl_lh hT (lo := i) (m := 0) hi
  have hs2 : ∀ W, (Instr.sliceAt 22 (.slice ao n c) (some (.int .i64 (i : Int))) (some (.int .i64 (i : Int))) none).run Try.prog W = .ok (.slice a1 0 c1) W := fun W => by have := hs1 W; simpa using this
  clear hT hs1 hm2 hb hbase hi HA HV H
  go_enter Try.func32, Try.ntmps32
  go_wp2_with fail
  refine C.out.mono ?_
  rintro e w1 ⟨v', rfl, h1⟩
  have H1 := Hid.mk' h1
  clear h1 C
  dsimp only
  go_wp2
  go_ret
  exact ⟨v', rfl, H1.out⟩
end Go.Proofs.Ythklmdnamkjgmaa
