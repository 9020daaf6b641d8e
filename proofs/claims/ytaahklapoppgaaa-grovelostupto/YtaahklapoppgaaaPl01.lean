/- The law's allFine. -/
import Derived.Test.YtaahklapoppgaaaPl00
namespace Go.Proofs.Ytaahklapoppgaaa
open Go.RowKit

set_option maxRecDepth 8000
def AfI (D : List Nd) (i : Nat) : Prop := ∀ j, 0 < j → j < i → Fin (at' D j).was ∧ Fin (at' D j).made
theorem AfI.step {D : List Nd} {i : Nat} (h : AfI D i) (h1 : 0 < i → Fin (at' D i).was ∧ Fin (at' D i).made) : AfI D (i + 1) := fun j h0 hj => by
  rcases Nat.lt_or_ge j i with h2 | h2
  · exact h j h0 h2
  · obtain rfl : j = i := by omega
    exact h1 h0
set_option maxHeartbeats 8000000 in
set_option linter.unusedSimpArgs false in
theorem allfine_any (ao : Option Addr) (n c : Nat) (now : Int) (G : List Nr) (w : World) (HG : Hid (Grz w ao G)) (hn : G.length = n) (hnb : n ≤ 1048576) :
    Calls Try.prog 32 #[.agg #[.slice ao n c, .int .i64 now]] w fun e w' => e = .returned (.bool (tb (AllFin (G.map Nr.d)))) ∧ Below w.heap.size w w' := by
  generalize hW1 : w.alloc (.cells #[.slice ao n c, .int .i64 now] 24) = W1
  have L1 : Hid (Below w.heap.size w W1) := by subst hW1; exact bAlloc (Below.refl _ _) _
  have K1 : Hid (Blk W1 w.heap.size 24 #[.slice ao n c, .int .i64 now]) := by subst hW1; exact Blk.new w 24 _
  obtain ⟨b, hb⟩ : ∃ b, w.heap.size = b := ⟨_, rfl⟩
  rw [hb] at K1
  have HN := Hid.mk' hn
  have HNB := Hid.mk' hnb
  have HLD : Hid ((G.map Nr.d).length = n) := by unfold Hid; rw [List.length_map, hn]
  obtain ⟨T, hT⟩ : ∃ T, tb (AllFin (G.map Nr.d)) = T := ⟨_, rfl⟩
  have HNO : Hid (¬ AllFin (G.map Nr.d) → T = false) := fun h => by rw [← hT]; exact tb_f h
  have HYE : Hid (AllFin (G.map Nr.d) → T = true) := fun h => by rw [← hT]; exact tb_t h
  rw [hT]
  clear hT hn hnb
  go_enter Try.func32, Try.ntmps32
  go_wp2_with fail
  clear hW1 hb
  go_loopg [3] n (fun m x3 wx => ∃ i : Nat, x3 = .int .i64 (i : Int) ∧ i + m = n ∧ Hid (AfI (G.map Nr.d) i) ∧ Hid (Below w.heap.size w wx) ∧ Hid (Blk wx b 24 #[.slice ao n c, .int .i64 now]))
  case atStart => exact ⟨0, rfl, by omega, (fun j _ hj => by omega), L1.out, K1.out⟩
  case round =>
    obtain ⟨i, rfl, him, KI, KB, KK⟩ := hrel
    obtain ⟨go, hgo⟩ : ∃ g, g = gk - 1 := ⟨_, rfl⟩
    have a4 := blk_cell0 KK.out
    by_cases hi : i < n
    · have hi' : (i : Int) < (n : Int) := by omega
      have hi0 : (0 : Int) ≤ (i : Int) := by omega
      have hw8 : IntKind.i64.wrap ((i : Int) + 1) = ((i + 1 : Nat) : Int) := by rw [IntKind.wrap_i64]; have := HNB.out; omega
      by_cases hi1 : i = 0
      · have hi2 : ¬ (0 : Int) < (i : Int) := by omega
        have KJ := Hid.mk' (KI.out.step (fun h => absurd h (by omega)))
        go_wp2
        go_roundg go
        case measure => omega
        case rel => exact ⟨i + 1, by go_num, by omega, KJ.out, KB.out, KK.out⟩
      · have hi2 : (0 : Int) < (i : Int) := by omega
        have HI3 : Hid (0 < i) := by unfold Hid; omega
        obtain ⟨r, hr⟩ : ∃ r, G[i]? = some r := ⟨_, List.getElem?_eq_getElem (by have := HN.out; omega)⟩
        have HRD : Hid (at' (G.map Nr.d) i = r.d) := map_at hr
        have hz := HG.out.nds i r hr
        have hwl := hz.ww.len
        have hml := hz.wm.len
        obtain ⟨g, o, rfl, hnc⟩ := HG.out.at hr
        have M1 := Hid.mk' (range_keep hnc.m1 KB.out)
        have M2 := Hid.mk' (range_keep hnc.m2 KB.out)
        have CA := fun W => mfine_any r.was hwl W
        have CB := fun W => mfine_any r.made hml W
        clear hr hz hnc
        by_cases f1 : Fin r.was
        · rw [tb_t f1] at CA
          by_cases f2 : Fin r.made
          · rw [tb_t f2] at CB
            have KJ := Hid.mk' (KI.out.step (fun _ => by rw [HRD.out]; exact ⟨f1, f2⟩))
            have HCA := Hid.mk' CA
            have HCB := Hid.mk' CB
            clear CA CB f1 f2
            go_wp2_with (refine wl_ld41g (B := g) (o := o + i * 58 + 4) (.tmp 18) (by first | rfl | (simp [Region.wanted, yielded]; done) | (simp [Region.wanted, yielded]; exact HI3.out)) rfl rfl hwl M1.out ?_)
            go_at_call 28
            refine (HCA.out _).mono ?_
            rintro e w5 ⟨rfl, hb5⟩
            have L5 := Hid.mk' (bT KB.out hb5)
            have K5 := Hid.mk' (KK.out.keep hb5)
            have N2 := Hid.mk' (range_keep M2.out hb5)
            have a5 := blk_cell0 K5.out
            clear hb5 a4 hwl M1 M2 HCA
            dsimp only
            go_wp2_with (refine wl_ld41g (B := g) (o := o + i * 58 + 31) (.tmp 27) (by first | rfl | (simp [Region.wanted, yielded]; done) | (simp [Region.wanted, yielded]; exact HI3.out)) rfl rfl hml N2.out ?_)
            go_at_call 28
            refine (HCB.out _).mono ?_
            rintro e w6 ⟨rfl, hb6⟩
            have L6 := Hid.mk' (bT L5.out hb6)
            have K6 := Hid.mk' (K5.out.keep hb6)
            clear hb6 a5 hml N2 HCB L5 K5
            dsimp only
            go_wp2
            go_roundg go
            case measure => omega
            case rel => exact ⟨i + 1, by go_num, by omega, KJ.out, L6.out, K6.out⟩
          · rw [tb_f f2] at CB
            have hq : Hid (T = false) := HNO.out (fun h => f2 (by have := (h i HI3.out (by rw [HLD.out]; exact hi)).2; rwa [HRD.out] at this))
            have HCA := Hid.mk' CA
            have HCB := Hid.mk' CB
            clear CA CB f1 f2
            go_wp2_with (refine wl_ld41g (B := g) (o := o + i * 58 + 4) (.tmp 18) (by first | rfl | (simp [Region.wanted, yielded]; done) | (simp [Region.wanted, yielded]; exact HI3.out)) rfl rfl hwl M1.out ?_)
            go_at_call 28
            refine (HCA.out _).mono ?_
            rintro e w5 ⟨rfl, hb5⟩
            have L5 := Hid.mk' (bT KB.out hb5)
            have K5 := Hid.mk' (KK.out.keep hb5)
            have N2 := Hid.mk' (range_keep M2.out hb5)
            have a5 := blk_cell0 K5.out
            clear hb5 a4 hwl M1 M2 HCA
            dsimp only
            go_wp2_with (refine wl_ld41g (B := g) (o := o + i * 58 + 31) (.tmp 27) (by first | rfl | (simp [Region.wanted, yielded]; done) | (simp [Region.wanted, yielded]; exact HI3.out)) rfl rfl hml N2.out ?_)
            go_at_call 28
            refine (HCB.out _).mono ?_
            rintro e w6 ⟨rfl, hb6⟩
            have L6 := Hid.mk' (bT L5.out hb6)
            clear hb6 a5 hml N2 HCB L5 K5
            dsimp only
            go_wp2
            go_ret
            exact ⟨by rw [hq.out]; rfl, L6.out⟩
        · rw [tb_f f1] at CA
          have hq : Hid (T = false) := HNO.out (fun h => f1 (by have := (h i HI3.out (by rw [HLD.out]; exact hi)).1; rwa [HRD.out] at this))
          have HCA := Hid.mk' CA
          clear CA CB f1
          go_wp2_with (refine wl_ld41g (B := g) (o := o + i * 58 + 4) (.tmp 18) (by first | rfl | (simp [Region.wanted, yielded]; done) | (simp [Region.wanted, yielded]; exact HI3.out)) rfl rfl hwl M1.out ?_)
          go_at_call 28
          refine (HCA.out _).mono ?_
          rintro e w5 ⟨rfl, hb5⟩
          have L5 := Hid.mk' (bT KB.out hb5)
          clear hb5 a4 hwl M1 M2 HCA
          dsimp only
          go_wp2
          go_ret
          exact ⟨by rw [hq.out]; rfl, L5.out⟩
    · have hi' : ¬ (i : Int) < (n : Int) := by omega
      have hq : Hid (T = true) := HYE.out (fun j h0 hj => KI.out j h0 (by rw [HLD.out] at hj; omega))
      go_wp2
      go_ret
      exact ⟨by rw [hq.out]; rfl, KB.out⟩
end Go.Proofs.Ytaahklapoppgaaa
