/- The contracts of quoinlaw07.lent and quoinlaw07.whole. -/
import Derived.Test.YtbkhbnmihnomaaaRws
import Derived.Lib.BufferRead
namespace Go.Proofs.Ytbkhbnmihnomaaa
open Go.RowKit

/-- bytes as cells -/
def bv (l : List UInt8) : List Value := l.map fun b => Value.int .u8 (b.toNat : Int)
theorem bv_length (l : List UInt8) : (bv l).length = l.length := by simp [bv]
theorem bv_at (l : List UInt8) (j : Nat) (h : j < l.length) : (bv l)[j]? = some (.int .u8 ((at8 l j).toNat : Int)) := by simp [bv, at8, h]
theorem bv_one (l : List UInt8) : ∀ u ∈ bv l, u.oneCell' = true := by
  intro u hu; obtain ⟨x, _, rfl⟩ := List.mem_map.1 hu; rfl
theorem info5 : (Try.prog.info? 5).map (fun i => (i.zero, i.size, i.bytes)) = some (some (.int .u8 0), 1, 1) := by kernel_rfl
theorem Tx.srv {w : World} {ao : Option Addr} {n c : Nat} {l : List UInt8} (h : Tx w ao n c l) : Srv w (.slice ao n c) n (bv l) := by
  cases ao with
  | none =>
    obtain ⟨rfl, rfl, rfl⟩ := h.none
    exact .inl ⟨rfl, rfl, rfl⟩
  | some a =>
    refine .inr ⟨a, c, rfl, fun j t hj => ?_⟩
    have hlt := (List.getElem?_eq_some_iff.1 hj).1
    rw [bv_length] at hlt
    rw [bv_at l j hlt] at hj
    rw [← hj]
    exact h.cells a rfl j (by rw [← h.len]; exact hlt)
theorem own_some {w : World} {base e size n : Nat} {v : Value} {xs : List Value} (h : w.ownsRow base e size v n xs) (hn : 1 ≤ n) : ∃ g cap, v = .slice (some ⟨g, 0, none⟩) n cap ∧ n ≤ cap ∧ cap ≤ maxLen := by
  rcases h.2 with ⟨_, h0⟩ | ⟨g, cap, cur, rfl, _, _, h1, h2, _⟩
  · omega
  · exact ⟨g, cap, rfl, h1, h2⟩
theorem conv_tx {W : World} {ao : Option Addr} {n c : Nat} {l : List UInt8} (h : Tx W ao n c l) : (convert 22 9 (.slice ao n c)).run Try.prog W = .ok (.string ⟨l.toArray⟩) W := by
  cases ao with
  | none =>
    obtain ⟨rfl, rfl, rfl⟩ := h.none
    exact Lib.run_convert_nil_bytes W 22 9 5 0 Try.underlying22 Try.underlying5 Try.underlying9
  | some a =>
    have := run_convert_bytes_back W 22 9 5 a c l Try.underlying22 Try.underlying5 Try.underlying9 (fun j hj => by rw [h.cells a rfl j (by rw [← h.len]; exact hj), at8_eq hj])
    rwa [h.len] at this
def mk2 : List Value := [.int .u8 77, .int .u8 78]

set_option maxRecDepth 100000 in
set_option maxHeartbeats 800000 in
theorem lent_any (ao : Option Addr) (n c : Nat) (l : List UInt8) (w : World) (hbig : n ≤ 140737488351232) (HT : Hid (Tx w ao n c l)) :
    Calls Try.prog 8 #[.slice ao n c] w fun e w' => ∃ g cap, e = .returned (.slice (some ⟨g, 0, none⟩) n cap) ∧ w'.ownsRow w.heap.size 5 1 (.slice (some ⟨g, 0, none⟩) (n + 2) cap) (n + 2) (bv l ++ mk2) ∧ Below w.heap.size w w' := by
  obtain ⟨i0, hi, hz0, hz1, hz2⟩ := info_parts info5
  have hlen := Hid.mk' HT.out.len
  go_enter Try.func8, Try.ntmps8
  go_wp2_with (at_builtin; refine append_srv rfl (.tmp 3) (.tmp 4) 22 rfl w.heap.size 5 i0 (.int .u8 0) 1 1 Try.underlying22 hi hz0 hz1 hz2 rfl (by decide) (.slice (some ⟨w.heap.size, 0, none⟩) 0 0) 0 [] rfl (World.ownsRow_made w #[] 0 (Nat.le_refl _) (Nat.zero_le _) rfl) (.slice ao n c) n (bv l) rfl ?qc2 ?qc1 ?qc3 ?qc4 ?qc5 ?qc6 ?_)
  case qc1 => rw [bv_length, hlen.out]; omega
  case qc2 => exact (HT.out.keep (bAlloc (Below.refl _ _) _)).srv
  case qc3 => exact bv_one l
  case qc4 => unfold maxLen; omega
  case qc5 => omega
  case qc6 => simp
  intro v1 w1 hown hgrow _
  have HW1 : Hid (w1.ownsRow w.heap.size 5 1 v1 n (bv l)) := by unfold Hid; simpa using hown
  have L1 : Hid (Below w.heap.size w w1) := ((Below.refl _ w).alloc (Nat.le_refl _) _).grown hgrow (by simp) (by intro k hk; simp [Value.ownBlock] at hk; omega)
  clear hown hgrow
  go_wp2_with (at_builtin; refine append_srv rfl (.tmp 5) (.tmp 6) 22 rfl w.heap.size 5 i0 (.int .u8 0) 1 1 Try.underlying22 hi hz0 hz1 hz2 rfl (by decide) v1 n (bv l) rfl (HW1.out.alloc _) (.slice (some ⟨w1.heap.size, 0, none⟩) 2 2) 2 [.int .u8 77, .int .u8 78] rfl (.inr ⟨⟨w1.heap.size, 0, none⟩, 2, rfl, fun k u hk => lit_cells w1 _ 5 k u hk⟩) rfl ?qd3 ?qd4 ?qd5 ?qd6 ?_)
  case qd3 => intro u hu; simp at hu; rcases hu with rfl | rfl <;> rfl
  case qd4 => unfold maxLen; omega
  case qd5 => omega
  case qd6 => have := L1.out.size; simp; omega
  intro v2 w2 hown hgrow _
  have L2 : Hid (Below w.heap.size w w2) := (bAlloc L1.out _).grown hgrow (by have := L1.out.size; simp; omega) (fun k hk => (HW1.out.lt k hk).1)
  obtain ⟨g, cap, rfl, hc1, hc2⟩ := own_some hown (by omega)
  have HW2 : Hid (w2.ownsRow w.heap.size 5 1 (.slice (some ⟨g, 0, none⟩) (n + 2) cap) (n + 2) (bv l ++ mk2)) := hown
  have hx0 : (0 : Int) ≤ (n : Int) := by omega
  have hx1 : (n : Int) ≤ (cap : Int) := by omega
  have hx2 : ¬ cap = 0 := by omega
  clear hown hgrow hc2
  go_wp2
  go_ret
  exact ⟨_, _, rfl, HW2.out, L2.out⟩

/-- what was lent reads as the text -/
theorem lent_tx {w : World} {g cap base n : Nat} {l : List UInt8} (hl : l.length = n) (hb : n ≤ 140737488355328) (h : w.ownsRow base 5 1 (.slice (some ⟨g, 0, none⟩) (n + 2) cap) (n + 2) (bv l ++ mk2)) : Tx w (some ⟨g, 0, none⟩) n cap l := by
  obtain ⟨g', cap', hv, hc1, hc2⟩ := own_some h (by omega)
  have hcap : n + 2 ≤ cap := by simp at hv; omega
  refine ⟨hl, by omega, hb, (fun h => by cases h), fun a ha j hj => ?_⟩
  obtain rfl : (⟨g, 0, none⟩ : Addr) = a := by simpa using ha
  rw [add_none, Nat.zero_add, h.cellAt j (by omega), List.getElem?_append_left (by rw [bv_length]; omega)]
  exact bv_at l j (by omega)

set_option maxRecDepth 100000 in
set_option maxHeartbeats 800000 in
theorem whole_any (g cap : Nat) (ao : Option Addr) (n c base : Nat) (l : List UInt8) (w : World) (hbig : n ≤ 140737488351232) (HT : Hid (Tx w ao n c l)) (hW : Hid (w.ownsRow base 5 1 (.slice (some ⟨g, 0, none⟩) (n + 2) cap) (n + 2) (bv l ++ mk2))) :
    Calls Try.prog 11 #[.slice (some ⟨g, 0, none⟩) n cap, .slice ao n c] w fun e w' => e = .returned (.bool true) ∧ w' = w := by
  have hl := HT.out.len
  obtain ⟨g', cap', hv, hc1, hc2⟩ := own_some hW.out (by omega)
  have hcap : n + 2 ≤ cap := by simp at hv; omega
  have v1 := conv_tx (lent_tx hl (by omega) hW.out)
  have v2 := conv_tx HT.out
  have q0 : w.cell? ⟨g, n, none⟩ = some (.int .u8 77) := by
    rw [hW.out.cellAt n (by omega), List.getElem?_append_right (by rw [bv_length]; omega), bv_length, hl]; simp [mk2]
  have q1 : w.cell? ⟨g, n + 1, none⟩ = some (.int .u8 78) := by
    rw [hW.out.cellAt (n + 1) (by omega), List.getElem?_append_right (by rw [bv_length]; omega), bv_length, hl]; simp [mk2]
  have x0 : (0 : Int) ≤ (n : Int) + 2 := by omega
  have x1 : (n : Int) + 2 ≤ (cap : Int) := by omega
  have x2 : ¬ cap = 0 := by omega
  have x3 : (n : Int) ≤ 140737488351232 := by omega
  clear hv hc1 hc2 hl
  go_enter Try.func11, Try.ntmps11
  go_wp2
  go_ret
  exact ⟨rfl, rfl⟩
end Go.Proofs.Ytbkhbnmihnomaaa
