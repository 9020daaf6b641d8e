/- The contract of the reference's hits. -/
import Derived.Test.YtinlkeionoghdaaPb
import Derived.Test.YtinlkeionoghdaaRws
import Derived.Deep.LoopGhost
import Derived.Deep.CutRange
namespace Go.Proofs.Ytinlkeionoghdaa
open Go.RowKit

/-- places as cells -/
def iv (L : List Nat) : List Value := L.map fun (q : Nat) => Value.int .i64 (q : Int)
theorem iv_length (L : List Nat) : (iv L).length = L.length := by simp [iv]
theorem iv_snoc (L : List Nat) (q : Nat) : iv L ++ [Value.int .i64 (q : Int)] = iv (L ++ [q]) := by simp [iv]
theorem iv_one (q : Int) : ∀ u ∈ [Value.int .i64 q], u.oneCell' = true := by intro u hu; simp at hu; rw [hu]; rfl
theorem info3 : (Try.prog.info? 3).map (fun i => (i.zero, i.size, i.bytes)) = some (some (.int .i64 0), 1, 8) := by kernel_rfl
theorem hu_congr {S S' : Nat → Bool} : ∀ f p, (∀ q, p ≤ q → q < p + f → S q = S' q) → hu S f p = hu S' f p
  | 0, _, _ => rfl
  | f + 1, p, h => by
    unfold hu
    rw [h p (Nat.le_refl _) (by omega), hu_congr f (p + 1) (fun q h1 h2 => h q (by omega) (by omega))]
theorem hd_congr {S S' : Nat → Bool} : ∀ f p, f ≤ p → (∀ q, p - f ≤ q → q < p → S q = S' q) → hd S f p = hd S' f p
  | 0, _, _, _ => rfl
  | f + 1, p, hp, h => by
    unfold hd
    rw [h (p - 1) (by omega) (by omega), hd_congr f (p - 1) (by omega) (fun q h1 h2 => h q (by omega) (by omega))]
/-- looked for, and not passed over -/
def su (l : List UInt8) (b : Int) (p sk q : Nat) : Bool := isb l b q && decide (p + sk < q)
def sd (l : List UInt8) (b : Int) (p sk q : Nat) : Bool := isb l b q && decide (q + sk < p)
theorem su_hu (l : List UInt8) (b : Int) (p sk E : Nat) (hsk : sk ≤ 1) : hu (su l b p sk) (E - (p + 1)) (p + 1) = hu (isb l b) (E - (p + 1 + sk)) (p + 1 + sk) := by
  have go : ∀ f q, p + sk < q → hu (su l b p sk) f q = hu (isb l b) f q := fun f q hq => hu_congr f q (fun r h1 h2 => by unfold su; rw [decide_eq_true (by omega), Bool.and_true])
  rcases Nat.lt_or_ge sk 1 with h | h
  · obtain rfl : sk = 0 := by omega
    exact go _ _ (by omega)
  · obtain rfl : sk = 1 := by omega
    rcases Nat.lt_or_ge (p + 1) E with h2 | h2
    · rw [show E - (p + 1) = (E - (p + 1 + 1)) + 1 from by omega, hu_no (by unfold su; rw [decide_eq_false (by omega), Bool.and_false])]
      exact go _ _ (by omega)
    · rw [show E - (p + 1) = 0 from by omega, show E - (p + 1 + 1) = 0 from by omega]; rfl
theorem sd_hd (l : List UInt8) (b : Int) (p sk B : Nat) (hsk : sk ≤ 1) (hB : B ≤ p) : hd (sd l b p sk) (p - B) p = hd (isb l b) (p - sk - B) (p - sk) := by
  have go : ∀ f q, f ≤ q → q + sk ≤ p → hd (sd l b p sk) f q = hd (isb l b) f q := fun f q hf hq => hd_congr f q hf (fun r h1 h2 => by unfold sd; rw [decide_eq_true (by omega), Bool.and_true])
  rcases Nat.lt_or_ge sk 1 with h | h
  · obtain rfl : sk = 0 := by omega
    exact go _ _ (by omega) (by omega)
  · obtain rfl : sk = 1 := by omega
    rcases Nat.lt_or_ge B p with h2 | h2
    · obtain ⟨p, rfl⟩ : ∃ k, p = k + 1 := ⟨p - 1, by omega⟩
      rw [show p + 1 - B = (p - B) + 1 from by omega, hd_no (by unfold sd; rw [decide_eq_false (by omega), Bool.and_false]), Nat.add_sub_cancel]
      exact go _ _ (by omega) (by omega)
    · rw [show p - B = 0 from by omega, show p - 1 - B = 0 from by omega]; rfl
theorem ne10 {l : List UInt8} {q : Nat} (h : le (at8 l q) = false) : (((at8 l q).toNat : Int) != 10) = true := by unfold le at h; simp only [bne, h]; rfl
theorem eq10 {l : List UInt8} {q : Nat} (h : le (at8 l q) = true) : (((at8 l q).toNat : Int) != 10) = false := by unfold le at h; simp only [bne, h]; rfl

set_option maxHeartbeats 2000000 in
theorem hits_flat (ao : Option Addr) (n c p sk : Nat) (b : Int) (l : List UInt8) (w : World) (hp : p ≤ n) (hn : n ≤ 1048576) (hf : p = n ∨ le (at8 l p) = true) (HT : Hid (Tx w ao n c l)) :
    Calls Try.prog 24 #[.slice ao n c, .int .i64 p, .int .u8 b, .bool true, .int .i64 sk] w fun e w' => e = .returned (.slice none 0 0) ∧ w' = w := by
  have hp0 : (0 : Int) ≤ (p : Int) := by omega
  have hpb : (p : Int) ≤ 1048576 := by omega
  by_cases hpn : p + 1 < n
  · have h10 := eq10 (by rcases hf with h | h; omega; exact h : le (at8 l p) = true)
    obtain ⟨gg, o, rfl, hcl⟩ := HT.out.at (by omega)
    have hcp := hcl p (by omega)
    have h1 : (p : Int) + 1 < (n : Int) := by omega
    have h2 : ¬ ((n : Int) ≤ (p : Int)) := by omega
    have h3 : (p : Int) < (n : Int) := by omega
    clear hcl hf
    go_enter Try.func24, Try.ntmps24
    go_wp2
    go_loopg [11, 12] 0 (fun _ x11 x12 wx => x11 = .slice none 0 0 ∧ x12 = .int .i64 ((p : Int) + 1) ∧ w = wx)
    case atStart => exact ⟨rfl, by go_num, rfl⟩
    case round =>
      obtain ⟨rfl, rfl, rfl⟩ := hrel
      go_wp2
      go_ret
      exact ⟨rfl, rfl⟩
  · have h1 : ¬ ((p : Int) + 1 < (n : Int)) := by omega
    clear hf
    go_enter Try.func24, Try.ntmps24
    go_wp2
    go_loopg [11, 12] 0 (fun _ x11 x12 wx => x11 = .slice none 0 0 ∧ x12 = .int .i64 ((p : Int) + 1) ∧ w = wx)
    case atStart => exact ⟨rfl, by go_num, rfl⟩
    case round =>
      obtain ⟨rfl, rfl, rfl⟩ := hrel
      go_wp2
      go_ret
      exact ⟨rfl, rfl⟩

set_option maxHeartbeats 4000000 in
theorem hits_up (ao : Option Addr) (n c p sk E : Nat) (b : Int) (l : List UInt8) (w : World) (hn : n ≤ 1048576) (hsk : sk ≤ 1) (hpE : p < E) (hEn : E ≤ n) (HN : Hid (∀ j, p ≤ j → j < E → le (at8 l j) = false)) (HE : Hid (E = n ∨ le (at8 l E) = true)) (HT : Hid (Tx w ao n c l)) :
    Calls Try.prog 24 #[.slice ao n c, .int .i64 p, .int .u8 b, .bool true, .int .i64 sk] w fun e w' => ∃ v, e = .returned v ∧ Below w.heap.size w w' ∧ w'.ownsRow w.heap.size 3 1 v (hu (su l b p sk) (E - (p + 1)) (p + 1)).length (iv (hu (su l b p sk) (E - (p + 1)) (p + 1))) := by
  obtain ⟨i0, hi, hz0, hz1, hz2⟩ := info_parts info3
  have hp0 : (0 : Int) ≤ (p : Int) := by omega
  have hpb : (p : Int) ≤ 1048576 := by omega
  have h2 : ¬ ((n : Int) ≤ (p : Int)) := by omega
  have h3 : (p : Int) < (n : Int) := by omega
  have h10 := ne10 (HN.out p (Nat.le_refl _) hpE)
  obtain ⟨gg, o, rfl, hcl0⟩ := HT.out.at (by omega)
  clear hcl0
  obtain ⟨L, hL⟩ : ∃ L, L = hu (su l b p sk) (E - (p + 1)) (p + 1) := ⟨_, rfl⟩
  rw [← hL]
  have HL := Hid.mk' hL.symm
  have hLn : L.length ≤ n := by rw [hL]; have := hu_len (su l b p sk) (E - (p + 1)) (p + 1); omega
  clear hL
  have hs1 : IntKind.i64.wrap ((p : Int) + (sk : Int)) = (p : Int) + (sk : Int) := by rw [IntKind.wrap_i64]; omega
  go_enter Try.func24, Try.ntmps24
  go_wp2
  go_loopg [11, 12] (E - (p + 1)) (fun g x11 x12 wx => ∃ (q : Nat) (L0 : List Nat), x12 = .int .i64 q ∧ q + g = E ∧ p < q ∧ Hid (L0 ++ hu (su l b p sk) g q = L) ∧ Hid (wx.ownsRow w.heap.size 3 1 x11 L0.length (iv L0)) ∧ Hid (Below w.heap.size w wx))
  case atStart => exact ⟨p + 1, [], by go_num, by omega, by omega, HL.out, World.ownsRow_nil _ _ _ _, Below.refl _ _⟩
  case round =>
    rename_i x11
    obtain ⟨q, L0, rfl, hqg, hpq, HI, HO, HB⟩ := hrel
    obtain ⟨ax, cx, hax⟩ := own_shape HO.out
    subst hax
    have hq0 : (0 : Int) ≤ (q : Int) := by omega
    have hqb : (q : Int) ≤ 1048576 := by omega
    have hcl := Hid.mk' (((HT.out.keep HB.out).at (by omega)))
    have TT := HT.out.keep HB.out
    have cp : ∀ j, j < n → wr.cell? ⟨gg, o + j, none⟩ = some (.int .u8 ((at8 l j).toNat : Int)) := fun j hj => by have := TT.cells _ rfl j hj; rwa [add_none] at this
    have CP := Hid.mk' cp
    clear cp TT hcl
    have hcp := CP.out p (by omega)
    cases gk with
    | zero =>
      obtain rfl : L0 = L := by have := HI.out; simpa [hu] using this
      by_cases hEE : E = n
      · have hqn : ¬ ((q : Int) < (n : Int)) := by omega
        clear hEE
        go_wp2
        go_ret
        exact ⟨_, rfl, HB.out, HO.out⟩
      · have hqn : (q : Int) < (n : Int) := by omega
        obtain rfl : q = E := by omega
        have hcq := CP.out q (by omega)
        have h11 := eq10 (by rcases HE.out with h | h; exact absurd h hEE; exact h : le (at8 l q) = true)
        clear hEE
        go_wp2
        go_ret
        exact ⟨_, rfl, HB.out, HO.out⟩
    | succ g =>
      have hqn : (q : Int) < (n : Int) := by omega
      have hcq := CP.out q (by omega)
      have h11 := ne10 (HN.out q (by omega) (by omega))
      cases hs : isb l b q with
      | false =>
        have hs' : (((at8 l q).toNat : Int) == b) = false := hs
        have HK : Hid (L0 ++ hu (su l b p sk) g (q + 1) = L) := by have := HI.out; rw [hu_no (by unfold su; rw [hs]; rfl)] at this; exact this
        clear hs
        go_wp2
        go_roundg g
        case measure => omega
        case rel => exact ⟨q + 1, L0, by go_num, by omega, by omega, HK.out, HO.out, HB.out⟩
      | true =>
        have hs' : (((at8 l q).toNat : Int) == b) = true := hs
        by_cases hk : p + sk < q
        · have hk' : (p : Int) + (sk : Int) < (q : Int) := by omega
          have HK : Hid ((L0 ++ [q]) ++ hu (su l b p sk) g (q + 1) = L) := by have := HI.out; rw [hu_yes (by unfold su; rw [hs, decide_eq_true hk]; rfl)] at this; rw [List.append_assoc]; exact this
          have hlen : L0.length + 1 ≤ n := by have h1 := congrArg List.length HK.out; simp at h1; omega
          clear hs hk
          go_wp2_with (at_builtin; refine append_srv rfl (.tmp 56) (.tmp 58) 52 rfl w.heap.size 3 i0 (.int .i64 0) 1 8 Try.underlying52 hi hz0 hz1 hz2 rfl (by decide) (.slice ax L0.length cx) L0.length (iv L0) rfl (HO.out.alloc _) (.slice (some ⟨wr.heap.size, 0, none⟩) 1 1) 1 [.int .i64 (q : Int)] rfl (.inr ⟨⟨wr.heap.size, 0, none⟩, 1, rfl, fun k u hk => lit_cells wr _ 3 k u hk⟩) rfl (iv_one _) (by unfold maxLen; omega) (by omega) (by have := HB.out.size; simp; omega) ?_)
          intro v2 w5 hown hgrow _
          have L2 : Hid (Below w.heap.size w w5) := (bAlloc HB.out _).grown hgrow (by have := HB.out.size; simp; omega) (fun k hk => (HO.out.lt k hk).1)
          have O2 : Hid (w5.ownsRow w.heap.size 3 1 v2 (L0 ++ [q]).length (iv (L0 ++ [q]))) := by unfold Hid; rw [← iv_snoc, List.length_append]; exact hown
          clear hown hgrow
          go_wp2
          go_roundg g
          case measure => omega
          case rel => exact ⟨q + 1, L0 ++ [q], by go_num, by omega, by omega, HK.out, O2.out, L2.out⟩
        · have hk' : ¬ ((p : Int) + (sk : Int) < (q : Int)) := by omega
          have HK : Hid (L0 ++ hu (su l b p sk) g (q + 1) = L) := by have := HI.out; rw [hu_no (by unfold su; rw [decide_eq_false hk, Bool.and_false])] at this; exact this
          clear hs hk
          go_wp2
          go_roundg g
          case measure => omega
          case rel => exact ⟨q + 1, L0, by go_num, by omega, by omega, HK.out, HO.out, HB.out⟩
end Go.Proofs.Ytinlkeionoghdaa
