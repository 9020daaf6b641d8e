/- The reference's quotes and blank. -/
import Derived.Test.YtgdhdegmjljbfaaRhd
namespace Go.Proofs.Ytgdhdegmjljbfaa
open Go.RowKit
/-- how many backslashes stand right ahead -/
def nb (L : List UInt8) : Nat → Nat
  | 0 => 0
  | k + 1 => if bi L k = 92 then nb L k + 1 else 0
theorem nb_pln (L : List UInt8) : ∀ k, pln L k = (nb L k % 2 == 0)
  | 0 => rfl
  | k + 1 => by
    have ih := nb_pln L k
    unfold pln nb
    by_cases h : bi L k = 92
    · rw [if_pos h, h, ih]
      have : nb L k % 2 = 0 ∨ nb L k % 2 = 1 := by omega
      rcases this with e | e
      · have e2 : (nb L k + 1) % 2 = 1 := by omega
        rw [e, e2]; rfl
      · have e2 : (nb L k + 1) % 2 = 0 := by omega
        rw [e, e2]; rfl
    · rw [if_neg h]
      have : (bi L k != 92) = true := by simpa using h
      rw [this]; rfl
theorem nb_le (L : List UInt8) : ∀ k, nb L k ≤ k
  | 0 => Nat.le_refl _
  | k + 1 => by have := nb_le L k; unfold nb; split <;> omega
set_option maxHeartbeats 1000000 in
theorem blank_any (b : UInt8) (w : World) : Calls Try.prog 35 #[.int .u8 (b.toNat : Int)] w fun e w' => e = .returned (.bool (bl b)) ∧ w' = w := by
  have HB : Hid (bl b = (((b.toNat : Int) == 32) || ((b.toNat : Int) == 9))) := rfl
  generalize bl b = r at *
  cases h1 : ((b.toNat : Int) == 32) with
  | true =>
    rw [h1] at HB
    go_enter Try.func35, Try.ntmps35
    go_wp2
    all_goals go_ret
    all_goals exact ⟨by rw [HB.out]; rfl, rfl⟩
  | false =>
    rw [h1] at HB
    go_enter Try.func35, Try.ntmps35
    go_wp2
    all_goals go_ret
    all_goals exact ⟨by rw [HB.out]; rfl, rfl⟩
/-- places of a line as places of the text -/
def qv (s : Nat) (Q : List Nat) : List Value := iv (Q.map (s + ·))
theorem qv_snoc (s : Nat) (Q : List Nat) (x : Nat) : qv s (Q ++ [x]) = qv s Q ++ [.int .i64 ((s + x : Nat) : Int)] := by simp [qv, iv]
theorem qv_at {s : Nat} {Q : List Nat} {i x : Nat} (h : Q[i]? = some x) : (qv s Q)[i]? = some (.int .i64 ((s + x : Nat) : Int)) := by simp [qv, iv, h]
set_option maxRecDepth 8000 in
set_option maxHeartbeats 8000000 in
theorem quotes_any (ao : Option Addr) (n c k : Nat) (q : Int) (l : List UInt8) (w : World) (hn : n ≤ 4398046511103) (hk : k ≤ n) (HT : Hid (Tx w ao n c l)) :
    Calls Try.prog 34 #[.slice ao n c, .int .i64 (bg l k : Int), .int .i64 (en l (bg l k) : Int), .int .u8 q] w fun e w' => ∃ v, e = .returned v ∧ w'.ownsRow w.heap.size 3 1 v (qs (lq l k) q (lm l k)).length (qv (bg l k) (qs (lq l k) q (lm l k))) ∧ Below w.heap.size w w' := by
  obtain ⟨i3, hi3, hz3, hs3, hb3⟩ := info_parts info3
  have hlen := HT.out.len
  have hb := bg_le l k
  have he := en_le (t := l) (s := bg l k) (by omega)
  have heg := en_ge l (bg l k)
  have HM : Hid (lm l k = en l (bg l k) - bg l k) := rfl
  have HLA : Hid (∀ x, x < lm l k → bi (lq l k) x = bi l (bg l k + x)) := fun x hx => by unfold bi; rw [lq_at hx]
  generalize lq l k = L at *
  generalize lm l k = m at *
  generalize en l (bg l k) = e at *
  generalize bg l k = s at *
  have hmn : m ≤ n := by have := HM.out; omega
  go_enter Try.func34, Try.ntmps34
  go_wp2_with fail
  go_loopg [9, 10, 11] m (fun g x9 x10 x11 wx => ∃ i F : Nat, x10 = .int .i64 (F : Int) ∧ i + g = m ∧ Hid (F = s + i) ∧ Hid (wx.ownsRow w.heap.size 3 1 x9 (qs L q i).length (qv s (qs L q i))) ∧ Hid (Below w.heap.size w wx))
  case atStart => exact ⟨0, s, rfl, by omega, rfl, World.ownsRow_nil _ _ _ _, Below.refl _ _⟩
  case round =>
    obtain ⟨i, F, rfl, hi, HF, HO, LB⟩ := hrel
    obtain ⟨a9, c9, e9⟩ := own_shape HO.out
    subst e9
    have hQL := qs_len L q i
    cases gk with
    | zero =>
      have h1 : ¬ ((F : Int) < (e : Int)) := by have := HF.out; have := HM.out; omega
      obtain rfl : i = m := by omega
      go_wp2
      all_goals go_ret
      all_goals exact ⟨_, rfl, HO.out, LB.out⟩
    | succ g =>
      have him : i < m := by omega
      have hFe : F < e := by have := HF.out; have := HM.out; omega
      have hsF : s ≤ F := by have := HF.out; omega
      have h0 : (0 : Int) ≤ (F : Int) := by omega
      have h1 : (F : Int) < (e : Int) := by omega
      have h2 : (F : Int) < (n : Int) := by omega
      obtain ⟨gt, ot, rfl, hct⟩ := (HT.out.keep LB.out).at (by omega)
      have HCT : Hid (∀ x, x < m → wr.cell? ⟨gt, ot + (s + x), none⟩ = some (.int .u8 (bi L x))) := fun x hx => by
        rw [HLA.out x hx]; exact hct (s + x) (by have := HM.out; omega)
      clear hct
      have hQm : (qs L q i).length ≤ n := by have := HM.out; omega
      go_wp2_with fail
      go_loopg [11] i (fun g9 x11 wx => ∃ x : Nat, x11 = .int .i64 (x : Int) ∧ x + g9 = i ∧ Hid (nb L i = x + nb L (i - x)) ∧ wr = wx)
      case atStart => exact ⟨0, rfl, by omega, by simp [Hid], rfl⟩
      case round =>
        obtain ⟨x, rfl, hx, HX, rfl⟩ := hrel
        have hw1 : IntKind.i64.wrap ((F : Int) - 1) = (F : Int) - 1 := by rw [IntKind.wrap_i64]; omega
        -- what stands behind the inner loop
        have HEND : Hid (gk = 0 ∨ ∃ D y : Nat, IntKind.i64.wrap ((F : Int) - 1 - (x : Int)) = (D : Int) ∧ (s : Int) ≤ (D : Int) ∧ (0 : Int) ≤ (D : Int) ∧ (D : Int) < (n : Int) ∧ D = s + y ∧ y < m ∧ i - x = y + 1) := by
          rcases Nat.eq_zero_or_pos gk with h | h
          · exact .inl h
          · right
            have e1 := HF.out
            have e2 := HM.out
            exact ⟨s + (i - x - 1), i - x - 1, by rw [IntKind.wrap_i64]; omega, by omega, by omega, by omega, rfl, by omega, by omega⟩
        by_cases hgo : ∃ D y : Nat, IntKind.i64.wrap ((F : Int) - 1 - (x : Int)) = (D : Int) ∧ (s : Int) ≤ (D : Int) ∧ (0 : Int) ≤ (D : Int) ∧ (D : Int) < (n : Int) ∧ D = s + y ∧ y < m ∧ i - x = y + 1 ∧ bi L y = 92
        · obtain ⟨D, y, d1, d2, d3, d4, d5, d6, d7, d8⟩ := hgo
          have cD := HCT.out y d6
          rw [← d5, d8] at cD
          have HX2 : Hid (nb L i = (x + 1) + nb L (i - (x + 1))) := by
            unfold Hid; rw [HX.out, d7, show i - (x + 1) = y by omega]
            conv => lhs; unfold nb
            rw [if_pos d8]; omega
          have hwx : IntKind.i64.wrap ((x : Int) + 1) = ((x + 1 : Nat) : Int) := by rw [IntKind.wrap_i64]; omega
          have hgk : ∃ g8, gk = g8 + 1 := ⟨gk - 1, by omega⟩
          obtain ⟨g8, rfl⟩ := hgk
          clear d5 d6 d7 d8 HEND
          go_wp2
          go_roundg g8
          case measure => omega
          case rel => exact ⟨x + 1, rfl, by omega, HX2.out, rfl⟩
        · -- the count stands
          have HNB : Hid (nb L i = x) := by
            unfold Hid
            rw [HX.out]
            rcases HEND.out with h | ⟨D, y, d1, d2, d3, d4, d5, d6, d7⟩
            · rw [show i - x = 0 by omega]; rfl
            · have hne : ¬ bi L y = 92 := fun h => hgo ⟨D, y, d1, d2, d3, d4, d5, d6, d7, h⟩
              rw [d7]; unfold nb; rw [if_neg hne]; rfl
          have HPL : Hid (pln L i = (x % 2 == 0)) := by unfold Hid; rw [nb_pln, HNB.out]
          have hpl : (((x : Int) % 2) == 0) = pln L i := by
            rw [HPL.out]
            rcases (by omega : x % 2 = 0 ∨ x % 2 = 1) with h | h
            · have a1 : (((x : Int) % 2) == 0) = true := by simp; omega
              rw [a1, h]; rfl
            · have a1 : (((x : Int) % 2) == 0) = false := by rw [beq_eq_false_iff_ne]; omega
              rw [a1, h]; rfl
          have HI : Hid (isq L q i = ((bi L i == q) && pln L i)) := rfl
          have cF : wr.cell? ⟨gt, ot + F, none⟩ = some (.int .u8 (bi L i)) := by have := HCT.out i him; rwa [← HF.out] at this
          have hwF : IntKind.i64.wrap ((F : Int) + 1) = ((F + 1 : Nat) : Int) := by rw [IntKind.wrap_i64]; omega
          have HTEST : Hid (¬ ((s : Int) ≤ (F : Int) - 1 - (x : Int)) ∧ IntKind.i64.wrap ((F : Int) - 1 - (x : Int)) = (F : Int) - 1 - (x : Int) ∨ ∃ D y : Nat, IntKind.i64.wrap ((F : Int) - 1 - (x : Int)) = (D : Int) ∧ (s : Int) ≤ (D : Int) ∧ (0 : Int) ≤ (D : Int) ∧ (D : Int) < (n : Int) ∧ D = s + y ∧ y < m ∧ (bi L y == 92) = false) := by
            rcases HEND.out with h | ⟨D, y, d1, d2, d3, d4, d5, d6, d7⟩
            · left
              have e1 := HF.out
              exact ⟨by omega, by rw [IntKind.wrap_i64]; omega⟩
            · right; exact ⟨D, y, d1, d2, d3, d4, d5, d6, by rw [beq_eq_false_iff_ne]; exact fun h => hgo ⟨D, y, d1, d2, d3, d4, d5, d6, d7, h⟩⟩
          clear hgo HEND HNB HPL HX
          generalize pln L i = PP at *
          have HQY := Hid.mk' (fun h => qs_yes (L := L) (q := q) (k := i) h)
          have HQN := Hid.mk' (fun h => qs_no (L := L) (q := q) (k := i) h)
          rw [HI.out] at HQY HQN
          rcases HTEST.out with ⟨t1, t2⟩ | ⟨D, y, d1, d2, d3, d4, d5, d6, d8⟩
          all_goals clear HTEST
          · cases hbq : (bi L i == q) <;> cases PP <;> rw [hbq] at HQY HQN
            all_goals generalize bi L i = bb at *
            · have HQ9 := Hid.mk' (HQN.out rfl)
              go_wp2_with fail
              go_roundg g
              case measure => omega
              case rel => exact ⟨i + 1, F + 1, rfl, by omega, by have := HF.out; unfold Hid; omega, by rw [HQ9.out]; exact HO.out, LB.out⟩
            · have HQ9 := Hid.mk' (HQN.out rfl)
              go_wp2_with fail
              go_roundg g
              case measure => omega
              case rel => exact ⟨i + 1, F + 1, rfl, by omega, by have := HF.out; unfold Hid; omega, by rw [HQ9.out]; exact HO.out, LB.out⟩
            · have HQ9 := Hid.mk' (HQN.out rfl)
              go_wp2_with fail
              go_roundg g
              case measure => omega
              case rel => exact ⟨i + 1, F + 1, rfl, by omega, by have := HF.out; unfold Hid; omega, by rw [HQ9.out]; exact HO.out, LB.out⟩
            · have HQ9 := Hid.mk' (HQY.out rfl)
              go_wp2_with (at_builtin; refine append_srv rfl (.tmp 47) (.tmp 49) 63 rfl w.heap.size 3 i3 (.int .i64 0) 1 8 Try.underlying63 hi3 hz3 hs3 hb3 rfl (by decide) (.slice a9 (qs L q i).length c9) (qs L q i).length (qv s (qs L q i)) rfl (HO.out.alloc _) (.slice (some ⟨wr.heap.size, 0, none⟩) 1 1) 1 [.int .i64 (F : Int)] rfl (.inr ⟨⟨wr.heap.size, 0, none⟩, 1, rfl, fun k u hk => lit_cells wr _ 3 k u hk⟩) rfl (one64 _) (by unfold maxLen; omega) (by omega) (bAlloc LB.out _).size ?_)
              intro v2 w5 hown hgrow _
              have L2 : Hid (Below w.heap.size w w5) := (bAlloc LB.out _).grown hgrow (bAlloc LB.out _).size (fun k hk => (HO.out.lt k hk).1)
              have O2 : Hid (w5.ownsRow w.heap.size 3 1 v2 (qs L q (i + 1)).length (qv s (qs L q (i + 1)))) := by
                unfold Hid; rw [HQ9.out, qv_snoc, List.length_append, ← HF.out]; exact hown
              clear hown hgrow
              go_wp2
              go_roundg g
              case measure => omega
              case rel => exact ⟨i + 1, F + 1, rfl, by omega, by have := HF.out; unfold Hid; omega, O2.out, L2.out⟩
          · have cD := HCT.out y d6
            rw [← d5] at cD
            clear d5 d6
            generalize bi L y = by' at *
            cases hbq : (bi L i == q) <;> cases PP <;> rw [hbq] at HQY HQN
            all_goals generalize bi L i = bb at *
            · have HQ9 := Hid.mk' (HQN.out rfl)
              go_wp2_with fail
              go_roundg g
              case measure => omega
              case rel => exact ⟨i + 1, F + 1, rfl, by omega, by have := HF.out; unfold Hid; omega, by rw [HQ9.out]; exact HO.out, LB.out⟩
            · have HQ9 := Hid.mk' (HQN.out rfl)
              go_wp2_with fail
              go_roundg g
              case measure => omega
              case rel => exact ⟨i + 1, F + 1, rfl, by omega, by have := HF.out; unfold Hid; omega, by rw [HQ9.out]; exact HO.out, LB.out⟩
            · have HQ9 := Hid.mk' (HQN.out rfl)
              go_wp2_with fail
              go_roundg g
              case measure => omega
              case rel => exact ⟨i + 1, F + 1, rfl, by omega, by have := HF.out; unfold Hid; omega, by rw [HQ9.out]; exact HO.out, LB.out⟩
            · have HQ9 := Hid.mk' (HQY.out rfl)
              go_wp2_with (at_builtin; refine append_srv rfl (.tmp 47) (.tmp 49) 63 rfl w.heap.size 3 i3 (.int .i64 0) 1 8 Try.underlying63 hi3 hz3 hs3 hb3 rfl (by decide) (.slice a9 (qs L q i).length c9) (qs L q i).length (qv s (qs L q i)) rfl (HO.out.alloc _) (.slice (some ⟨wr.heap.size, 0, none⟩) 1 1) 1 [.int .i64 (F : Int)] rfl (.inr ⟨⟨wr.heap.size, 0, none⟩, 1, rfl, fun k u hk => lit_cells wr _ 3 k u hk⟩) rfl (one64 _) (by unfold maxLen; omega) (by omega) (bAlloc LB.out _).size ?_)
              intro v2 w5 hown hgrow _
              have L2 : Hid (Below w.heap.size w w5) := (bAlloc LB.out _).grown hgrow (bAlloc LB.out _).size (fun k hk => (HO.out.lt k hk).1)
              have O2 : Hid (w5.ownsRow w.heap.size 3 1 v2 (qs L q (i + 1)).length (qv s (qs L q (i + 1)))) := by
                unfold Hid; rw [HQ9.out, qv_snoc, List.length_append, ← HF.out]; exact hown
              clear hown hgrow
              go_wp2
              go_roundg g
              case measure => omega
              case rel => exact ⟨i + 1, F + 1, rfl, by omega, by have := HF.out; unfold Hid; omega, O2.out, L2.out⟩
end Go.Proofs.Ytgdhdegmjljbfaa
