/- The small functions of the law quoinlaw02.ShadeBlack: place and cut. -/
import Derived.Test.YtpifjghhlcjedaaWalks0
namespace Go.Proofs.Ytpifjghhlcjedaa
open Go.RowKit Go.Shelf

set_option maxHeartbeats 400000 in
theorem place10_low (x : Int) (n : Nat) (w : World) (hx : x < 0) (hl : -9223372036854775808 ≤ x) (hn : 0 < n) (hz : n ≤ 1048577) : Calls Try.prog 10 #[.int .i64 x, .int .i64 n] w fun e w' => (∃ k : Nat, k < n ∧ e = .returned (.int .i64 k)) ∧ Below w.heap.size w w' := by
  have hne : ((n : Int) == 0) = false := by simp; omega
  go_enter Try.func10, Try.ntmps10
  go_wp2
  go_ret
  have h1 := Int.tmod_nonneg (n : Int) (a := -(x + 1)) (by omega)
  have h2 := Int.tmod_lt_of_pos (-(x + 1)) (b := (n : Int)) (by omega)
  refine ⟨⟨((-(x + 1)).tmod n).toNat, by omega, ?_⟩, Below.refl _ _⟩
  show Ending.returned (.int .i64 (-(x + 1).tmod n)) = _
  rw [Int.toNat_of_nonneg h1, Int.neg_tmod]
set_option maxHeartbeats 400000 in
theorem place10_high (x : Int) (n : Nat) (w : World) (hx : 0 ≤ x) (hl : x ≤ 9223372036854775807) (hn : 0 < n) (hz : n ≤ 1048577) : Calls Try.prog 10 #[.int .i64 x, .int .i64 n] w fun e w' => (∃ k : Nat, k < n ∧ e = .returned (.int .i64 k)) ∧ Below w.heap.size w w' := by
  have hne : ((n : Int) == 0) = false := by simp; omega
  go_enter Try.func10, Try.ntmps10
  go_wp2
  go_ret
  have h1 := Int.emod_nonneg x (b := (n : Int)) (by omega)
  have h2 := Int.emod_lt_of_pos x (b := (n : Int)) (by omega)
  refine ⟨⟨(x % n).toNat, by omega, ?_⟩, Below.refl _ _⟩
  show Ending.returned (.int .i64 (x % n)) = _
  rw [Int.toNat_of_nonneg h1]
theorem place10_any (x : Int) (n : Nat) (w : World) (h1 : -9223372036854775808 ≤ x) (h2 : x ≤ 9223372036854775807) (hn : 0 < n) (hz : n ≤ 1048577) : Calls Try.prog 10 #[.int .i64 x, .int .i64 n] w fun e w' => (∃ k : Nat, k < n ∧ e = .returned (.int .i64 k)) ∧ Below w.heap.size w w' := by
  rcases (by omega : x < 0 ∨ 0 ≤ x) with h | h
  · exact place10_low x n w h h1 hn hz
  · exact place10_high x n w h h2 hn hz

/-- a part of a list can be read -/
theorem part_rdb {w : World} {b off n c i j : Nat} {L : List Pc} (h : Row w b off L) (hL : L.length = n) (hnc : n ≤ c) (hij : i ≤ j) (hj : j ≤ n) : Rdb w (.slice (some ⟨b, off + i * 4, none⟩) (j - i) (c - i)) ((L.drop i).take (j - i)) :=
  ⟨_, _, _, rfl, by rw [List.length_take, List.length_drop]; omega, by omega, .inr ⟨b, _, rfl, (h.drop i).take (j - i)⟩⟩

set_option maxRecDepth 100000 in
set_option maxHeartbeats 1000000 in
theorem cut14_some (b off n c i j : Nat) (L : List Pc) (w : World) (h : Hid (Row w b off L)) (hL : Hid (L.length = n)) (hnc : n ≤ c) (hij : i ≤ j) (hj : j ≤ n) (hz : n ≤ 1048576) (hci : ¬ c = i) :
    Calls Try.prog 14 #[.slice (some ⟨b, off, none⟩) n c, .int .i64 i, .int .i64 j] w fun e w' => ∃ a' c', e = .returned (.slice a' (j - i) c') ∧ w'.ownsRow w.heap.size 32 4 (.slice a' (j - i) c') (j - i) (cells ((L.drop i).take (j - i))) ∧ Below w.heap.size w w' := by
  obtain ⟨i32, hi32, hz32, hs32, hb32⟩ := info_parts info32
  have e1 : (0 : Int) ≤ (i : Int) := by omega
  have e2 : (i : Int) ≤ (j : Int) := by omega
  have e3 : (j : Int) ≤ (c : Int) := by omega
  have SV : Hid (Rk.Srv w (.slice (some ⟨b, off + i * 4, none⟩) (j - i) (c - i)) (j - i) (cells ((L.drop i).take (j - i)))) := (rdb_srv (part_rdb h.out hL.out hnc hij hj) (by simp)).2
  have hm : Hid (((L.drop i).take (j - i)).length = j - i ∧ j - i ≤ 1048576) := ⟨by rw [List.length_take, List.length_drop]; have := hL.out; omega, by omega⟩
  clear hz
  go_enter Try.func14, Try.ntmps14
  go_wp2_with (at_builtin; refine Rk.append_srv rfl (.tmp 7) (.tmp 11) 33 rfl w.heap.size 32 i32 (.agg #[.int .i64 0, .int .i64 0, .int .i64 0, .int .i64 0]) 4 32 Try.underlying33 hi32 hz32 hs32 hb32 rfl (by decide) (.slice (some ⟨w.heap.size, 0, none⟩) 0 0) 0 [] rfl (World.ownsRow_made w #[] 0 (Nat.le_refl _) (by decide) rfl) (.slice (some ⟨b, off + i * 4, none⟩) (j - i) (c - i)) (j - i) (cells ((L.drop i).take (j - i))) rfl (SV.out.keep (bAlloc (Below.refl _ _) _)) (by rw [cells_length, hm.out.1]) (cells_one _) (by unfold maxLen; have := hm.out.2; omega) (by have := hm.out.2; omega) (by simp) ?_)
  intro v2 w2 hown2 hgrow2 hfr2
  clear hfr2
  have HB2 : Hid (Below w.heap.size w w2) := (bAlloc (Below.refl _ _) _).grown hgrow2 (by simp) (fun k hk => by simp [Value.ownBlock] at hk; omega)
  have HO2 : Hid (w2.ownsRow w.heap.size 32 4 v2 (j - i) (cells ((L.drop i).take (j - i)))) := by unfold Hid; simpa using hown2
  obtain ⟨a2, c2, hv2⟩ := own_shape HO2.out
  subst hv2
  clear hown2 hgrow2
  go_wp2
  go_ret
  exact ⟨a2, c2, rfl, HO2.out, HB2.out⟩
set_option maxRecDepth 100000 in
set_option maxHeartbeats 1000000 in
/-- nothing is cut out -/
theorem cut14_nil (ao : Option Addr) (i : Nat) (w : World) (hn : ao = none ∨ ∃ b off, ao = some ⟨b, off, none⟩) (hi : ao = none → i = 0) (hz : i ≤ 1048576) :
    Calls Try.prog 14 #[.slice ao i i, .int .i64 i, .int .i64 i] w fun e w' => ∃ a' c', e = .returned (.slice a' 0 c') ∧ w'.ownsRow w.heap.size 32 4 (.slice a' 0 c') 0 [] ∧ Below w.heap.size w w' := by
  obtain ⟨i32, hi32, hz32, hs32, hb32⟩ := info_parts info32
  have e1 : (0 : Int) ≤ (i : Int) := by omega
  have e2 : i - i = 0 := by omega
  clear hz
  rcases hn with rfl | ⟨b, off, rfl⟩
  · have := hi rfl
    subst this
    go_enter Try.func14, Try.ntmps14
    go_wp2_with (at_builtin; refine Rk.append_srv rfl (.tmp 7) (.tmp 11) 33 rfl w.heap.size 32 i32 (.agg #[.int .i64 0, .int .i64 0, .int .i64 0, .int .i64 0]) 4 32 Try.underlying33 hi32 hz32 hs32 hb32 rfl (by decide) (.slice (some ⟨w.heap.size, 0, none⟩) 0 0) 0 [] rfl (World.ownsRow_made w #[] 0 (Nat.le_refl _) (by decide) rfl) (.slice none 0 0) 0 [] rfl (.inl ⟨rfl, rfl, rfl⟩) rfl (by simp) (by unfold maxLen; omega) (by omega) (by simp) ?_)
    intro v2 w2 hown2 hgrow2 hfr2
    clear hfr2
    have HB2 : Hid (Below w.heap.size w w2) := (bAlloc (Below.refl _ _) _).grown hgrow2 (by simp) (fun k hk => by simp [Value.ownBlock] at hk; omega)
    have HO2 : Hid (w2.ownsRow w.heap.size 32 4 v2 0 []) := by unfold Hid; simpa using hown2
    obtain ⟨a2, c2, hv2⟩ := own_shape HO2.out
    subst hv2
    clear hown2 hgrow2
    go_wp2
    go_ret
    exact ⟨a2, c2, rfl, HO2.out, HB2.out⟩
  · go_enter Try.func14, Try.ntmps14
    go_wp2_with (at_builtin; refine Rk.append_srv rfl (.tmp 7) (.tmp 11) 33 rfl w.heap.size 32 i32 (.agg #[.int .i64 0, .int .i64 0, .int .i64 0, .int .i64 0]) 4 32 Try.underlying33 hi32 hz32 hs32 hb32 rfl (by decide) (.slice (some ⟨w.heap.size, 0, none⟩) 0 0) 0 [] rfl (World.ownsRow_made w #[] 0 (Nat.le_refl _) (by decide) rfl) (.slice (some ⟨b, off, none⟩) 0 0) 0 [] rfl (.inr ⟨_, 0, rfl, fun j t hj => by simp at hj⟩) rfl (by simp) (by unfold maxLen; omega) (by omega) (by simp) ?_)
    intro v2 w2 hown2 hgrow2 hfr2
    clear hfr2
    have HB2 : Hid (Below w.heap.size w w2) := (bAlloc (Below.refl _ _) _).grown hgrow2 (by simp) (fun k hk => by simp [Value.ownBlock] at hk; omega)
    have HO2 : Hid (w2.ownsRow w.heap.size 32 4 v2 0 []) := by unfold Hid; simpa using hown2
    obtain ⟨a2, c2, hv2⟩ := own_shape HO2.out
    subst hv2
    clear hown2 hgrow2
    go_wp2
    go_ret
    exact ⟨a2, c2, rfl, HO2.out, HB2.out⟩
/-- cut: a list of its own with the pieces from i up to j -/
theorem cut14_any (ao : Option Addr) (n c i j : Nat) (L : List Pc) (w : World) (hn0 : ao = none → c = 0) (hn : ao = none ∨ ∃ b off, ao = some ⟨b, off, none⟩) (h : Rdb w (.slice ao n c) L) (hij : i ≤ j) (hj : j ≤ n) (hz : n ≤ 1048576) :
    Calls Try.prog 14 #[.slice ao n c, .int .i64 i, .int .i64 j] w fun e w' => ∃ a' c', e = .returned (.slice a' (j - i) c') ∧ w'.ownsRow w.heap.size 32 4 (.slice a' (j - i) c') (j - i) (cells ((L.drop i).take (j - i))) ∧ Below w.heap.size w w' := by
  obtain ⟨_, _, _, e, h2, h3, h4⟩ := h
  simp at e
  obtain ⟨rfl, rfl, rfl⟩ := e
  by_cases hci : c = i
  · have e1 : n = i := by omega
    have e2 : j = i := by omega
    subst hci
    subst e2
    subst e1
    have : (L.drop n).take (n - n) = [] := by simp
    rw [this, Nat.sub_self]
    exact cut14_nil ao n w hn hn0 hz
  · rcases hn with rfl | ⟨b, off, rfl⟩
    · have := hn0 rfl
      omega
    · have hr : Row w b off L := by
        rcases h4 with h4 | ⟨b', off', e, hr⟩
        · subst h4
          intro j p hj
          simp at hj
        · simp at e
          obtain ⟨rfl, rfl⟩ := e
          exact hr
      exact cut14_some b off n c i j L w hr h2.symm h3 hij hj hz hci
end Go.Proofs.Ytpifjghhlcjedaa
