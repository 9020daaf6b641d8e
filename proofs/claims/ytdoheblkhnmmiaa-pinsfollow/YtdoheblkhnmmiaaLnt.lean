/- The laws great, lent and whole. -/
import Derived.Test.YtdoheblkhnmmiaaOpen
import Derived.Test.YtdoheblkhnmmiaaCrs
import Derived.Laws.MakeOwn
namespace Go.Proofs.Ytdoheblkhnmmiaa
open Go.RowKit

set_option maxRecDepth 8000
/-- how much the edits are together -/
def gsum (E : List Er) : Nat := (E.map fun r => r.o + r.n + 1).sum
theorem gsum_take {E : List Er} {i : Nat} {r : Er} (h : E[i]? = some r) : gsum (E.take (i + 1)) = gsum (E.take i) + (r.o + r.n + 1) := by
  obtain ⟨hi, rfl⟩ := List.getElem?_eq_some_iff.1 h
  unfold gsum
  rw [List.take_succ_eq_append_getElem hi, List.map_append, List.sum_append]
  simp
theorem gsum_mem {E : List Er} {i : Nat} {r : Er} (h : E[i]? = some r) : r.o + r.n + 1 ≤ gsum E := by
  unfold gsum
  induction E generalizing i with
  | nil => simp at h
  | cons x E ih =>
    cases i with
    | zero => simp at h; subst h; simp
    | succ i =>
      have := ih (i := i) (by simpa using h)
      simp only [List.map_cons, List.sum_cons]
      omega
theorem gsum_len (E : List Er) : E.length ≤ gsum E := by
  unfold gsum
  induction E with
  | nil => simp
  | cons x E ih => simp only [List.map_cons, List.sum_cons, List.length_cons]; omega
def GrP (E : List Er) (w : World) (e : Ending) (w' : World) : Prop := ∃ b, e = .returned (.bool b) ∧ (b = false → gsum E ≤ 1048576) ∧ Below w.heap.size w w'
set_option maxHeartbeats 4000000 in
theorem great_any (ao : Option Addr) (n c : Nat) (E : List Er) (w : World) (HE : Hid (Edz w ao E)) (hn : E.length = n) (hb : n ≤ 140737488355328) :
    Calls Try.prog 17 #[.slice ao n c] w fun e w' => GrP E w e w' := by
  have HN := Hid.mk' hn
  clear hn
  go_enter Try.func17, Try.ntmps17
  go_wp2_with fail
  go_loopg [3, 5, 8] n (fun m x3 x5 x8 wx => ∃ i q : Nat, x8 = .int .i64 (i : Int) ∧ x3 = .int .i64 (q : Int) ∧ i + m = n ∧ q ≤ 1048576 ∧ Hid (q = gsum (E.take i)) ∧ Hid (Below w.heap.size w wx))
  case atStart => exact ⟨0, 0, rfl, rfl, by omega, by omega, rfl, Below.refl _ _⟩
  case round =>
    obtain ⟨i, q, rfl, rfl, him, hq, HQ, KB⟩ := hrel
    obtain ⟨go, hgo⟩ : ∃ g, g = gk - 1 := ⟨_, rfl⟩
    by_cases hi : i < n
    · have hi' : (i : Int) < (n : Int) := by omega
      have hi0 : (0 : Int) ≤ (i : Int) := by omega
      obtain ⟨r, hr⟩ : ∃ r, E[i]? = some r := ⟨_, List.getElem?_eq_getElem (by have := HN.out; omega)⟩
      obtain ⟨g, o, rfl, h3⟩ := HE.out.row.ed3 hr
      obtain ⟨_, _, -, -, ho, hn2⟩ := HE.out.txs i r hr
      have h4 := h3.keep KB.out
      have HR := Hid.mk' hr
      have HG := Hid.mk' (gsum_take hr)
      obtain ⟨ra, rp1, ro, rc1, rp2, rn, rc2⟩ := r
      dsimp only at h4 ho hn2 HG
      have t0 := h4.e0
      have t1 := h4.e1
      have t2 := h4.e2
      clear hr h3 h4
      have hs1 : (ro : Int) ≤ 140737488351232 := by omega
      have hs2 : (rn : Int) ≤ 140737488351232 := by omega
      have hs0 : (q : Int) ≤ 1048576 := by omega
      have BA := Hid.mk' (bT KB.out (bAlloc (Below.refl _ wr) (.cells #[.int .i64 ra, .slice rp1 ro rc1, .slice rp2 rn rc2] 42)))
      have hw1 : IntKind.i64.wrap ((i : Int) + 1) = ((i + 1 : Nat) : Int) := by rw [IntKind.wrap_i64]; omega
      obtain ⟨q', hq'⟩ : ∃ q', q' = q + (ro + rn + 1) := ⟨_, rfl⟩
      have HQ' : Hid (q' = gsum (E.take (i + 1))) := by unfold Hid; rw [HG.out, ← HQ.out]; exact hq'
      have e1 : IntKind.i64.wrap ((ro : Int) + (rn : Int)) = (ro : Int) + (rn : Int) := by rw [IntKind.wrap_i64]; omega
      have e2 : IntKind.i64.wrap ((ro : Int) + (rn : Int) + 1) = (ro : Int) + (rn : Int) + 1 := by rw [IntKind.wrap_i64]; omega
      have e3 : IntKind.i64.wrap ((q : Int) + ((ro : Int) + (rn : Int) + 1)) = (q' : Int) := by rw [IntKind.wrap_i64]; omega
      have HQQ := Hid.mk' hq'
      clear hq' HG HQ
      by_cases hl : 1048576 < q'
      · have hl' : (1048576 : Int) < (q' : Int) := by omega
        clear hs1 hs2 hs0
        go_wp2
        go_ret
        exact ⟨true, rfl, (fun h => Bool.noConfusion h), BA.out⟩
      · have hl' : ¬ (1048576 : Int) < (q' : Int) := by omega
        clear hs1 hs2 hs0
        go_wp2
        go_roundg go
        case measure => omega
        case rel => exact ⟨i + 1, q', rfl, rfl, by omega, by omega, HQ'.out, BA.out⟩
    · have hi' : ¬ (i : Int) < (n : Int) := by omega
      have HF : Hid (gsum E ≤ 1048576) := by
        have h1 := HQ.out
        rw [List.take_of_length_le (by have := HN.out; omega)] at h1
        unfold Hid; omega
      go_wp2
      go_ret
      exact ⟨false, rfl, fun _ => HF.out, KB.out⟩
set_option maxHeartbeats 1000000 in
theorem lent_any (ao : Option Addr) (n c : Nat) (l : List UInt8) (w : World) (hbig : n ≤ 16777216) (h : Hid (Tx w ao n c l)) :
    Calls Try.prog 37 #[.slice ao n c] w fun e w' => ∃ g cap, e = .returned (.slice (some ⟨g, 0, none⟩) n cap) ∧ w'.ownsRow w.heap.size 5 1 (.slice (some ⟨g, 0, none⟩) (n + 2) cap) (n + 2) (bv l ++ mk2) ∧ Below w.heap.size w w' := by
  have hlen := Hid.mk' h.out.len
  go_enter Try.func37, Try.ntmps37
  go_wp2_with (at_builtin; refine append_big rfl (.tmp 3) (.tmp 4) rfl w.heap.size (.slice (some ⟨w.heap.size, 0, none⟩) 0 0) 0 [] rfl (World.ownsRow_made w #[] 0 (Nat.le_refl _) (Nat.zero_le _) rfl) (.slice ao n c) n (bv l) rfl ((h.out.keep (bAlloc (Below.refl _ _) _)).srv) (by rw [bv_length]; exact hlen.out) (bv_one l) (by omega) (by omega) (by simp) ?_)
  intro v1 w1 hown hgrow _
  have HW1 : Hid (w1.ownsRow w.heap.size 5 1 v1 n (bv l)) := by unfold Hid; simpa using hown
  have L1 : Hid (Below w.heap.size w w1) := ((Below.refl _ w).alloc (Nat.le_refl _) _).grown hgrow (by simp) (by intro k hk; simp [Value.ownBlock] at hk; omega)
  clear hown hgrow
  go_wp2_with (at_builtin; refine append_big rfl (.tmp 5) (.tmp 6) rfl w.heap.size v1 n (bv l) rfl (HW1.out.alloc _) (.slice (some ⟨w1.heap.size, 0, none⟩) 2 2) 2 [.int .u8 77, .int .u8 78] rfl (.inr ⟨⟨w1.heap.size, 0, none⟩, 2, rfl, fun k u hk => lit_cells w1 _ 5 k u hk⟩) rfl (by intro u hu; simp at hu; rcases hu with rfl | rfl <;> rfl) (by omega) (by omega) (by have := L1.out.size; simp; omega) ?_)
  intro v2 w2 hown hgrow _
  have L2 : Hid (Below w.heap.size w w2) := (bAlloc L1.out _).grown hgrow (by have := L1.out.size; simp; omega) (fun k hk => (HW1.out.lt k hk).1)
  obtain ⟨g, cap, rfl, hc1, hc2⟩ := own_some hown (by omega)
  have HW2 : Hid (w2.ownsRow w.heap.size 5 1 (.slice (some ⟨g, 0, none⟩) (n + 2) cap) (n + 2) (bv l ++ mk2)) := hown
  have hx0 : (0 : Int) ≤ (n : Int) := by omega
  have hx1 : (n : Int) ≤ (cap : Int) := by omega
  have hx2 : ¬ cap = 0 := by omega
  clear hown hgrow hc2
  go_wp2
  go_ret
  exact ⟨_, _, rfl, HW2.out, L2.out⟩
set_option maxHeartbeats 1000000 in
theorem whole_any (g cap : Nat) (ao : Option Addr) (n c base : Nat) (l : List UInt8) (w : World) (hbig : n ≤ 16777216) (h : Hid (Tx w ao n c l)) (hW : Hid (w.ownsRow base 5 1 (.slice (some ⟨g, 0, none⟩) (n + 2) cap) (n + 2) (bv l ++ mk2))) :
    Calls Try.prog 41 #[.slice (some ⟨g, 0, none⟩) n cap, .slice ao n c] w fun e w' => e = .returned (.bool true) ∧ w' = w := by
  obtain ⟨g', cap', hv, hc1, hc2⟩ := own_some hW.out (by omega)
  have hcap : n + 2 ≤ cap := by simp at hv; omega
  have hln := h.out.len
  have v1 := conv_tx (lent_tx hln (by omega) hW.out)
  have v2 := conv_tx h.out
  have q0 : w.cell? ⟨g, n, none⟩ = some (.int .u8 77) := by
    rw [hW.out.cellAt n (by omega), List.getElem?_append_right (by rw [bv_length]; omega), bv_length, hln]; simp [mk2]
  have q1 : w.cell? ⟨g, n + 1, none⟩ = some (.int .u8 78) := by
    rw [hW.out.cellAt (n + 1) (by omega), List.getElem?_append_right (by rw [bv_length]; omega), bv_length, hln]; simp [mk2]
  have x0 : (0 : Int) ≤ (n : Int) + 2 := by omega
  have x1 : (n : Int) + 2 ≤ (cap : Int) := by omega
  have x2 : ¬ cap = 0 := by omega
  clear hv hc1 hc2 hln
  go_enter Try.func41, Try.ntmps41
  go_wp2
  go_ret
  exact ⟨rfl, rfl⟩
end Go.Proofs.Ytdoheblkhnmmiaa
