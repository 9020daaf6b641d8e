/- The pair of brackets about a place: the program, its stack in memory. -/
import Derived.Test.YtgdhdegmjljbfaaSml
import Derived.Test.YtgdhdegmjljbfaaRnc
import Derived.Deep.LoopGhost
import Derived.Deep.CutRange
namespace Go.Proofs.Ytgdhdegmjljbfaa
open Go.RowKit
/-- two places and whether there are any -/
def oa (r : Option (Nat × Nat)) : Ending := .returned (.tuple #[.int .i64 ((r.getD (0, 0)).1 : Int), .int .i64 ((r.getD (0, 0)).2 : Int), .bool r.isSome])
/-- the stack in memory -/
def sv (S : List Nat) : List Value := iv S.reverse
theorem sv_cons (x : Nat) (S : List Nat) : sv (x :: S) = sv S ++ [Value.int .i64 (x : Int)] := by simp [sv, iv]
theorem sv_len (S : List Nat) : (sv S).length = S.length := by simp [sv, iv]
theorem one64 (x : Int) : ∀ u ∈ [Value.int .i64 x], u.oneCell' = true := by intro u hu; simp at hu; rw [hu]; rfl
theorem sv_top {w : World} {base : Nat} {ax : Option Addr} {cx : Nat} {x : Nat} {S : List Nat} (h : w.ownsRow base 3 1 (.slice ax (S.length + 1) cx) (S.length + 1) (sv (x :: S))) :
    ∃ g, ax = some ⟨g, 0, none⟩ ∧ S.length + 1 ≤ cx ∧ w.cell? ⟨g, S.length, none⟩ = some (.int .i64 (x : Int)) := by
  obtain ⟨g, cap, e, h1, _⟩ := own_some h (by omega)
  cases e
  refine ⟨g, rfl, h1, ?_⟩
  have := h.cells rfl S.length (.int .i64 (x : Int)) (by rw [sv_cons, List.getElem?_append_right (by rw [sv_len]; exact Nat.le_refl _), sv_len, Nat.sub_self]; rfl)
  rwa [add_none, Nat.zero_add] at this
theorem sv_pop {w : World} {base g cx : Nat} {x : Nat} {S : List Nat} (h : w.ownsRow base 3 1 (.slice (some ⟨g, 0, none⟩) (S.length + 1) cx) (S.length + 1) (sv (x :: S))) :
    w.ownsRow base 3 1 (.slice (some ⟨g, 0, none⟩) S.length cx) S.length (sv S) := by
  rw [sv_cons] at h
  exact own_prefix h (by rw [sv_len, Nat.mul_one]) (by omega)
set_option maxRecDepth 8000 in
set_option maxHeartbeats 8000000 in
theorem pairAbout_any (ao : Option Addr) (n c q cnt : Nat) (o cl : Int) (l : List UInt8) (w : World) (hn : n ≤ 4398046511104) (_hq : q ≤ n) (hc1 : 1 ≤ cnt) (hc2 : cnt ≤ 9999) (HT : Hid (Tx w ao n c l)) :
    Calls Try.prog 60 #[.slice ao n c, .int .i64 (q : Int), .int .i64 (cnt : Int), .int .u8 o, .int .u8 cl] w fun e w' => e = oa (ba l o cl q cnt) ∧ Below w.heap.size w w' := by
  obtain ⟨i3, hi3, hz3, hs3, hb3⟩ := info_parts info3
  have hl := HT.out.len
  go_enter Try.func60, Try.ntmps60
  go_wp2_with fail
  go_loopg [2, 13, 19] n (fun g x2 x13 x19 wx => ∃ i k : Nat, x19 = .int .i64 (i : Int) ∧ x2 = .int .i64 (k : Int) ∧ i + g = n ∧ 1 ≤ k ∧ k ≤ 9999 ∧ Hid (k + (pa (bst l o cl i).1 q).length = cnt) ∧ Hid (wx.ownsRow w.heap.size 3 1 x13 (bst l o cl i).2.length (sv (bst l o cl i).2)) ∧ Hid (Below w.heap.size w wx))
  case atStart => exact ⟨0, cnt, rfl, rfl, by omega, hc1, hc2, by simp [Hid, bst, pa], World.ownsRow_nil _ _ _ _, Below.refl _ _⟩
  case round =>
    obtain ⟨i, k, rfl, rfl, hi, hk1, hk2, HK, HO, HB⟩ := hrel
    obtain ⟨ax, cx, hax⟩ := own_shape HO.out
    subst hax
    have HSL := Hid.mk' (bst_len l o cl i)
    cases gk with
    | zero =>
      have h1 : ¬ ((i : Int) < (n : Int)) := by omega
      have HA : Hid (ba l o cl q cnt = none) := by
        unfold Hid
        have h2 := HK.out
        rw [show i = l.length by omega] at h2
        exact ba_not (by omega)
      go_wp2
      all_goals go_ret3
      all_goals exact ⟨by rw [HA.out]; rfl, HB.out⟩
    | succ g =>
      have hin : i < n := by omega
      have h0 : (0 : Int) ≤ (i : Int) := by omega
      have h1 : (i : Int) < (n : Int) := by omega
      have hb2 : (i : Int) ≤ 140737488355328 := by omega
      obtain ⟨gg, og, rfl, hcl⟩ := (HT.out.keep HB.out).at (by omega)
      have hcq : wr.cell? ⟨gg, og + i, none⟩ = some (.int .u8 (bi l i)) := hcl i hin
      clear hcl
      obtain ⟨S, HS⟩ : ∃ S, Hid ((bst l o cl i).2 = S) := ⟨_, rfl⟩
      rw [HS.out] at HO HSL ⊢
      have hSn : S.length ≤ n := by have := HSL.out; omega
      have hSL : (S.length : Int) ≤ 4398046511104 := by omega
      have hSL0 : (0 : Int) ≤ (S.length : Int) := by omega
      by_cases ho : bi l i = o
      · have he1 : (bi l i == o) = true := by simp [ho]
        have HN := Hid.mk' (bst_open (c := cl) ho)
        clear ho
        generalize bi l i = b at *
        go_wp2_with (first | (at_builtin; refine append_srv rfl (.tmp 28) (.tmp 30) 63 rfl w.heap.size 3 i3 (.int .i64 0) 1 8 Try.underlying63 hi3 hz3 hs3 hb3 rfl (by decide) (.slice ax S.length cx) S.length (sv S) rfl (HO.out.alloc _) (.slice (some ⟨wr.heap.size, 0, none⟩) 1 1) 1 [.int .i64 (i : Int)] rfl (.inr ⟨⟨wr.heap.size, 0, none⟩, 1, rfl, fun k u hk => lit_cells wr _ 3 k u hk⟩) rfl (one64 _) (by unfold maxLen; omega) (by omega) (by have := HB.out.size; simp; omega) ?_))
        intro v2 w5 hown hgrow _
        have L2 : Hid (Below w.heap.size w w5) := (bAlloc HB.out _).grown hgrow (bAlloc HB.out _).size (fun k hk => (HO.out.lt k hk).1)
        have O2 : Hid (w5.ownsRow w.heap.size 3 1 v2 (i :: S).length (sv (i :: S))) := by unfold Hid; rw [sv_cons, List.length_cons]; exact hown
        clear hown hgrow
        go_wp2
        go_roundg g
        case measure => omega
        case rel => exact ⟨i + 1, k, by go_num, rfl, by omega, hk1, hk2, by rw [HN.out]; exact HK.out, by rw [HN.out, HS.out]; exact O2.out, L2.out⟩
      · have he1 : (bi l i == o) = false := by simp [ho]
        by_cases hcc : bi l i = cl
        · have he2 : (bi l i == cl) = true := by simp [hcc]
          cases S with
          | nil =>
            have HN := Hid.mk' (bst_left (c := cl) ho HS.out)
            clear ho hcc
            generalize bi l i = b at *
            go_wp2_with fail
            go_roundg g
            case measure => omega
            case rel => exact ⟨i + 1, k, by go_num, rfl, by omega, hk1, hk2, by rw [HN.out]; exact HK.out, by rw [HN.out, HS.out]; exact HO.out, HB.out⟩
          | cons s S =>
            obtain ⟨gs, rfl, hcx, hctop⟩ := sv_top HO.out
            have O2 := Hid.mk' (sv_pop HO.out)
            have HN := Hid.mk' (bst_pair ho hcc HS.out)
            have HF := Hid.mk' (fun hq hn => ba_found (q := q) (n := cnt) (by omega) ho hcc HS.out hq hn)
            have hsi : s < i := ((bst_lam l o cl i).low s (by rw [HS.out]; exact List.mem_cons_self ..)).1
            obtain ⟨m, hm⟩ : ∃ m, m = (s :: S).length := ⟨_, rfl⟩
            have hm1 : m = S.length + 1 := by rw [hm]; simp
            have hmn : m ≤ n := by rw [hm]; exact hSn
            rw [← hm]
            clear hm hSL hSL0 ho hcc
            generalize bi l i = b at *
            have hlast : IntKind.i64.wrap ((m : Int) - 1) = (S.length : Int) := by rw [IntKind.wrap_i64]; omega
            have hl0 : (0 : Int) ≤ (S.length : Int) := by omega
            have hl1 : (S.length : Int) < (m : Int) := by omega
            have hl2 : (S.length : Int) ≤ (cx : Int) := by omega
            have hl3 : (0 : Int) < (m : Int) := by omega
            have hwk : IntKind.i64.wrap ((k : Int) - 1) = ((k - 1 : Nat) : Int) := by rw [IntKind.wrap_i64]; omega
            clear hm1
            by_cases hsq : s ≤ q ∧ q ≤ i
            · have hq1 : (s : Int) ≤ (q : Int) := by omega
              have hq2 : (q : Int) ≤ (i : Int) := by omega
              by_cases hk0 : k = 1
              · have hk3 : (((k - 1 : Nat) : Int) == 0) = true := by simp; omega
                have HA : Hid (ba l o cl q cnt = some (s, i)) := HF.out hsq (by have := HK.out; omega)
                clear hsq
                go_wp2
                all_goals go_ret3
                all_goals exact ⟨by rw [HA.out]; rfl, HB.out⟩
              · have hk3 : (((k - 1 : Nat) : Int) == 0) = false := by simp; omega
                have HP : Hid ((pa ((bst l o cl i).1 ++ [(s, i)]) q).length = (pa (bst l o cl i).1 q).length + 1) := by unfold Hid; rw [pa_append, List.length_append]; congr 1; simp [pa, hsq]
                clear hsq
                go_wp2
                go_roundg g
                case measure => omega
                case rel => exact ⟨i + 1, k - 1, by go_num, rfl, by omega, by omega, by omega, by rw [HN.out]; show k - 1 + (pa ((bst l o cl i).1 ++ [(s, i)]) q).length = cnt; rw [HP.out]; have := HK.out; omega, by rw [HN.out]; exact O2.out, HB.out⟩
            · have hk3 : ((k : Int) == 0) = false := by simp; omega
              have HP : Hid ((pa ((bst l o cl i).1 ++ [(s, i)]) q).length = (pa (bst l o cl i).1 q).length) := by unfold Hid; rw [pa_append, List.length_append]; simp [pa]; omega
              by_cases hq1 : (s : Int) ≤ (q : Int)
              · have hq2 : ¬ ((q : Int) ≤ (i : Int)) := by omega
                clear hsq
                go_wp2
                go_roundg g
                case measure => omega
                case rel => exact ⟨i + 1, k, by go_num, rfl, by omega, by omega, by omega, by rw [HN.out]; show k + (pa ((bst l o cl i).1 ++ [(s, i)]) q).length = cnt; rw [HP.out]; exact HK.out, by rw [HN.out]; exact O2.out, HB.out⟩
              · clear hsq
                go_wp2
                go_roundg g
                case measure => omega
                case rel => exact ⟨i + 1, k, by go_num, rfl, by omega, by omega, by omega, by rw [HN.out]; show k + (pa ((bst l o cl i).1 ++ [(s, i)]) q).length = cnt; rw [HP.out]; exact HK.out, by rw [HN.out]; exact O2.out, HB.out⟩
        · have he2 : (bi l i == cl) = false := by simp [hcc]
          have HN := Hid.mk' (bst_none ho hcc)
          clear ho hcc
          generalize bi l i = b at *
          go_wp2
          go_roundg g
          case measure => omega
          case rel => exact ⟨i + 1, k, by go_num, rfl, by omega, hk1, hk2, by rw [HN.out]; exact HK.out, by rw [HN.out, HS.out]; exact HO.out, HB.out⟩
end Go.Proofs.Ytgdhdegmjljbfaa
