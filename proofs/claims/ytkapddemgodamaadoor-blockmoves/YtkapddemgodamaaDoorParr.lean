/- A bracket's partner in the text: the program's walk with its stack in memory. -/
import Derived.Test.YtkapddemgodamaaDoorSv
namespace Go.Proofs.YtkapddemgodamaaDoor
open Go.RowKit

set_option maxHeartbeats 8000000 in
theorem partnerOf_r {ao : Option Addr} {n c p : Nat} {l : List UInt8} {w : World} (hp : p < n) (hpk : pk (bi l p) = true) (hpn : pn (bi l p) = true) (HT : Hid (Tx w ao n c l)) :
    Calls Tryd.prog 32 #[.slice ao n c, .int .i64 p] w fun e w' => e = oq (wkr l (n - p) p []) ∧ Below w.heap.size w w' := by
  obtain ⟨i5, hi5, hz5, hs5, hb5⟩ := info_parts info5
  have hl := HT.out.len
  have hbig := HT.out.big
  obtain ⟨A, hA⟩ : ∃ A, A = wkr l (n - p) p [] := ⟨_, rfl⟩
  rw [← hA]
  have HA := Hid.mk' hA.symm
  clear hA
  obtain ⟨gg, o, rfl, hcl⟩ := HT.out.at (by omega)
  have hc0 := hcl p (by omega)
  clear hcl
  have C1 := Hid.mk' (partner_any ((at8 l p).toNat : Int) w)
  have hbp : bi l p = ((at8 l p).toNat : Int) := rfl
  have HPK := Hid.mk' hpk
  have HPN := Hid.mk' hpn
  unfold ptr at C1
  rw [← hbp, hpk, hpn] at C1
  rw [← hbp] at hc0
  clear hpk hpn hbp
  generalize po (bi l p) = xo at C1
  have hp0 : (0 : Int) ≤ (p : Int) := by omega
  have hp1 : (p : Int) < (n : Int) := by omega
  go_enter Tryd.func32, Tryd.ntmps32
  go_wp2_with (go_at_call 14; refine C1.out.mono ?_; rintro e w' ⟨rfl, hw⟩; have hq := hw.symm; subst hq; clear hw)
  all_goals
  go_loopg [10, 11] (n - p) (fun g x10 x11 wx => ∃ (i : Nat) (S : List Int), x11 = .int .i64 (i : Int) ∧ i + g = n ∧ Hid (S = [] → i = p) ∧ S.length + g ≤ n ∧ Hid (wkr l g i S = A) ∧ Hid (wx.ownsRow w.heap.size 5 1 x10 S.length (sv S)) ∧ Hid (Below w.heap.size w wx))
  case atStart => exact ⟨p, [], rfl, by omega, fun _ => rfl, by simp <;> omega, HA.out, World.ownsRow_nil _ _ _ _, Below.refl _ _⟩
  case round =>
    obtain ⟨i, S, hx, hi, HS0, hSg, HI, HO, HB⟩ := hrel
    obtain ⟨ax, cx, hax⟩ := own_shape HO.out
    subst hax
    cases gk with
    | zero =>
      obtain rfl : A = none := by have := HI.out; rw [← this]; rfl
      subst hx
      have h0 : (0 : Int) ≤ (i : Int) := by omega
      have h1 : ¬ ((i : Int) < (n : Int)) := by omega
      go_wp2
      all_goals go_ret2
      all_goals exact ⟨rfl, HB.out⟩
    | succ g =>
      subst hx
      have hin : i < n := by omega
      have h0 : (0 : Int) ≤ (i : Int) := by omega
      have h1 : (i : Int) < (n : Int) := by omega
      have hb2 : (i : Int) ≤ 140737488355328 := by omega
      have TT := HT.out.keep HB.out
      have hcq : wr.cell? ⟨gg, o + i, none⟩ = some (.int .u8 (bi l i)) := by have := TT.cells _ rfl i hin; rwa [add_none] at this
      clear TT
      have C2 := Hid.mk' (partner_any (bi l i) wr)
      unfold ptr at C2
      have hSL : (S.length : Int) ≤ 140737488355328 := by omega
      cases hk : pk (bi l i) with
      | false =>
        have HNE : S ≠ [] := fun e => by
          have h2 := HPK.out
          have h3 := HS0.out e
          rw [show p = i by omega, hk] at h2; cases h2
        have HK : Hid (wkr l g (i + 1) S = A) := by
          unfold Hid
          have := HI.out
          unfold wkr at this
          rw [sb_skip hk] at this
          simpa [HNE] using this
        rw [hk] at C2
        generalize po (bi l i) = yo at *
        generalize pn (bi l i) = yn at *
        clear hk
        go_wp2_with (first | (go_at_call 14; refine C2.out.mono ?_; rintro e w' ⟨rfl, hw⟩; have hq := hw.symm; subst hq; clear hw))
        all_goals go_roundg g
        all_goals first | omega | exact ⟨i + 1, S, by go_num, by omega, (fun e => absurd e HNE), by omega, HK.out, HO.out, HB.out⟩
      | true =>
        by_cases hn : pn (bi l i) = true
        · have HK : Hid (wkr l g (i + 1) (po (bi l i) :: S) = A) := by
            unfold Hid
            have := HI.out
            unfold wkr at this
            rw [sb_push hk hn] at this
            simpa using this
          rw [hk, hn] at C2
          generalize po (bi l i) = yo at *
          clear hk hn
          go_wp2_with (first | (go_at_call 14; refine C2.out.mono ?_; rintro e w' ⟨rfl, hw⟩; have hq := hw.symm; subst hq; clear hw) | (at_builtin; refine append_srv rfl (.tmp 60) (.tmp 62) 22 rfl w.heap.size 5 i5 (.int .u8 0) 1 1 Tryd.underlying22 hi5 hz5 hs5 hb5 rfl (by decide) (.slice ax S.length cx) S.length (sv S) rfl (HO.out.alloc _) (.slice (some ⟨wr.heap.size, 0, none⟩) 1 1) 1 [.int .u8 yo] rfl (.inr ⟨⟨wr.heap.size, 0, none⟩, 1, rfl, fun k u hk => lit_cells wr _ 5 k u hk⟩) rfl (one8 _) (by unfold maxLen; omega) (by omega) (by have := HB.out.size; simp; omega) ?_))
          intro v2 w5 hown hgrow _
          have L2 : Hid (Below w.heap.size w w5) := (bAlloc HB.out _).grown hgrow (bAlloc HB.out _).size (fun k hk => (HO.out.lt k hk).1)
          have O2 : Hid (w5.ownsRow w.heap.size 5 1 v2 (yo :: S).length (sv (yo :: S))) := by unfold Hid; rw [sv_cons, List.length_cons]; exact hown
          clear hown hgrow
          go_wp2
          go_roundg g
          case measure => omega
          case rel => exact ⟨i + 1, yo :: S, by go_num, by omega, (fun e => by cases e), by rw [List.length_cons]; omega, HK.out, O2.out, L2.out⟩
        · have hn' : pn (bi l i) = false := by
            cases h : pn (bi l i) with
            | true => exact absurd h hn
            | false => rfl
          cases S with
          | nil =>
            have h2 := HPN.out
            have h3 := HS0.out rfl
            rw [show p = i by omega, hn'] at h2; cases h2
          | cons x S =>
            obtain ⟨gs, rfl, hcx, hctop⟩ := sv_top HO.out
            have O2 := Hid.mk' (sv_pop HO.out)
            have hSg' : S.length + 1 + (g + 1) ≤ n := by simpa using hSg
            have HSG := Hid.mk' hSg'
            obtain ⟨m, hm⟩ : ∃ m, m = (x :: S).length := ⟨_, rfl⟩
            have hm1 : m ≤ S.length + 1 := by rw [hm]; simp
            have hm2 : S.length + 1 ≤ m := by rw [hm]; simp
            rw [← hm]
            clear hm hSg hSg' hSL
            have hlast : IntKind.i64.wrap ((m : Int) - 1) = (S.length : Int) := by have := HSG.out; rw [IntKind.wrap_i64]; omega
            have hl0 : (0 : Int) ≤ (S.length : Int) := by omega
            have hl1 : (S.length : Int) < (m : Int) := by omega
            have hl2 : (S.length : Int) ≤ (cx : Int) := by omega
            rw [hk, hn'] at C2
            by_cases hx : bi l i = x
            · have hne : (bi l i != x) = false := by simp [hx]
              have HI2 : Hid ((if S = [] then some i else wkr l g (i + 1) S) = A) := by
                unfold Hid
                have := HI.out
                unfold wkr at this
                rw [hx, sb_pop (hx ▸ hk) (by rw [← hx, hn']; rfl)] at this
                exact this
              generalize po (bi l i) = yo at *
              generalize bi l i = yb at *
              clear hk hn hn' hx HI HO HS0
              by_cases hS0 : S = []
              · obtain rfl : A = some i := by have := HI2.out; rw [if_pos hS0] at this; exact this.symm
                have hz : ((S.length : Int) == 0) = true := by simp [hS0]
                clear hS0 HI2
                go_wp2_with (first | (go_at_call 14; refine C2.out.mono ?_; rintro e w' ⟨rfl, hw⟩; have hq := hw.symm; subst hq; clear hw))
                go_quiet (fail)
                go_wp2
                go_ret2
                exact ⟨rfl, bT HB.out (below_drewN _ _)⟩
              · have HK : Hid (wkr l g (i + 1) S = A) := by unfold Hid; have := HI2.out; rw [if_neg hS0] at this; exact this
                have hz : ((S.length : Int) == 0) = false := by simpa using hS0
                have HSS := Hid.mk' hS0
                clear hS0 HI2
                go_wp2_with (first | (go_at_call 14; refine C2.out.mono ?_; rintro e w' ⟨rfl, hw⟩; have hq := hw.symm; subst hq; clear hw))
                go_quiet (fail)
                go_wp2
                go_roundg g
                all_goals first | omega | exact ⟨i + 1, S, by go_num, by omega, (fun e => absurd e HSS.out), by have := HSG.out; omega, HK.out, own_keep O2.out (below_drewN _ _), bT HB.out (below_drewN _ _)⟩
            · have hne : (bi l i != x) = true := by simp [hx]
              obtain rfl : A = none := by
                have := HI.out
                unfold wkr sb at this
                rw [← this]
                simp [hk, hn', hx]
              generalize po (bi l i) = yo at *
              generalize bi l i = yb at *
              clear hk hn hn' hx HI HS0
              go_wp2_with (first | (go_at_call 14; refine C2.out.mono ?_; rintro e w' ⟨rfl, hw⟩; have hq := hw.symm; subst hq; clear hw))
              go_quiet (fail)
              go_wp2
              go_ret2
              exact ⟨rfl, bT HB.out (below_drewN _ _)⟩

end Go.Proofs.YtkapddemgodamaaDoor
