/- The pair of quotes of a line, and the blanks about it: the program. -/
import Derived.Test.YtgdhdegmjljbfaaPab
import Derived.Test.YtgdhdegmjljbfaaQpr
namespace Go.Proofs.Ytgdhdegmjljbfaa
open Go.RowKit
set_option maxRecDepth 8000 in
set_option maxHeartbeats 8000000 in
theorem pairOfQuotes_any (ao : Option Addr) (m c p : Nat) (q : Int) (L : List UInt8) (w : World) (HT : Hid (Tx w ao m c L)) :
    Calls Try.prog 57 #[.slice ao m c, .int .i64 (p : Int), .int .u8 q] w fun e w' => e = oa (qp L q p m) ∧ w' = w := by
  have hl := HT.out.len
  have hbig := HT.out.big
  go_enter Try.func57, Try.ntmps57
  go_wp2_with fail
  go_loopg [6, 9, 10, 15] m (fun g x6 x9 x10 x15 wx => ∃ (i f : Nat) (o : Bool), x15 = .int .i64 (i : Int) ∧ x6 = .int .i64 (f : Int) ∧ x9 = .bool o ∧ x10 = .bool (pln L i) ∧ i + g = m ∧ Hid (Qw L q p i f o) ∧ w = wx)
  case atStart => exact ⟨0, 0, false, rfl, rfl, rfl, rfl, by omega, Qw.start L q p 0, rfl⟩
  case round =>
    obtain ⟨i, f, o, rfl, rfl, rfl, rfl, hi, HQ, rfl⟩ := hrel
    cases gk with
    | zero =>
      have h1 : ¬ ((i : Int) < (m : Int)) := by omega
      obtain rfl : i = m := by omega
      have HA := Hid.mk' HQ.out.none
      go_wp2
      all_goals go_ret3
      all_goals exact ⟨by rw [HA.out]; rfl, rfl⟩
    | succ g =>
      have hin : i < m := by omega
      have h0 : (0 : Int) ≤ (i : Int) := by omega
      have h1 : (i : Int) < (m : Int) := by omega
      have hb2 : (i : Int) ≤ 140737488355328 := by omega
      obtain ⟨gg, og, rfl, hcl⟩ := HT.out.at (by omega)
      have hcq : w.cell? ⟨gg, og + i, none⟩ = some (.int .u8 (bi L i)) := hcl i hin
      clear hcl
      have HP : Hid (pln L (i + 1) = ((bi L i != 92) || !(pln L i))) := rfl
      have HI : Hid (isq L q i = ((bi L i == q) && pln L i)) := rfl
      generalize pln L i = P at *
      cases hb : (bi L i == q) with
      | false =>
        have HN : Hid (∀ f o, Qw L q p i f o → Qw L q p (i + 1) f o) := fun f o h => h.no (by rw [HI.out, hb]; rfl)
        generalize bi L i = b at *
        cases h9 : (b != 92) <;> cases P <;> rw [h9] at HP
        all_goals go_wp2
        all_goals go_roundg g
        all_goals first | omega | exact ⟨i + 1, f, o, by go_num, rfl, rfl, by rw [HP.out]; rfl, by omega, HN.out _ _ HQ.out, rfl⟩
      | true =>
        cases P with
        | false =>
          have HN : Hid (∀ f o, Qw L q p i f o → Qw L q p (i + 1) f o) := fun f o h => h.no (by rw [HI.out, hb]; rfl)
          generalize bi L i = b at *
          cases h9 : (b != 92) <;> rw [h9] at HP
          all_goals go_wp2
          all_goals go_roundg g
          all_goals first | omega | exact ⟨i + 1, f, o, by go_num, rfl, rfl, by rw [HP.out]; rfl, by omega, HN.out _ _ HQ.out, rfl⟩
        | true =>
          have HY : Hid (isq L q i = true) := by unfold Hid; rw [HI.out, hb]; rfl
          cases o with
          | false =>
            have HN := Hid.mk' (HQ.out.opens HY.out)
            generalize bi L i = b at *
            cases h9 : (b != 92) <;> rw [h9] at HP
            all_goals go_wp2
            all_goals go_roundg g
            all_goals first | omega | exact ⟨i + 1, i, true, by go_num, rfl, rfl, by rw [HP.out]; rfl, by omega, HN.out, rfl⟩
          | true =>
            by_cases hp : p ≤ i
            · have hp1 : (p : Int) ≤ (i : Int) := by omega
              have HA := Hid.mk' (HQ.out.found HY.out hp hin)
              clear hp
              generalize bi L i = b at *
              go_wp2
              all_goals go_ret3
              all_goals exact ⟨by rw [HA.out]; rfl, rfl⟩
            · have hp1 : ¬ ((p : Int) ≤ (i : Int)) := by omega
              have HN := Hid.mk' (HQ.out.closes HY.out (by omega))
              clear hp
              generalize bi L i = b at *
              cases h9 : (b != 92) <;> rw [h9] at HP
              all_goals go_wp2
              all_goals go_roundg g
              all_goals first | omega | exact ⟨i + 1, i, false, by go_num, rfl, rfl, by rw [HP.out]; rfl, by omega, HN.out, rfl⟩
set_option maxRecDepth 8000 in
set_option maxHeartbeats 8000000 in
theorem withBlanks_any (ao : Option Addr) (m c f t : Nat) (L : List UInt8) (w : World) (hf : f ≤ m) (ht : t ≤ m) (HT : Hid (Tx w ao m c L)) :
    Calls Try.prog 58 #[.slice ao m c, .int .i64 (f : Int), .int .i64 (t : Int)] w fun e w' => e = .returned (.tuple #[.int .i64 ((wb L m f t).1 : Int), .int .i64 ((wb L m f t).2 : Int)]) ∧ w' = w := by
  have hl := HT.out.len
  have hbig := HT.out.big
  obtain ⟨F, HF⟩ : ∃ F, Hid (fw L (m - t) t = F) := ⟨_, rfl⟩
  have hFb : F ≤ m := by have := fw_ge L (m - t) t; rw [HF.out] at this; omega
  obtain ⟨G, HG⟩ : ∃ G, Hid ((if F = t then bw L f else f) = G) := ⟨_, rfl⟩
  have HW : Hid (wb L m f t = (G, F)) := by unfold Hid wb; rw [HF.out, HG.out]
  go_enter Try.func58, Try.ntmps58
  go_wp2_with fail
  go_loopg [8] (m - t) (fun g x8 wx => ∃ i : Nat, x8 = .int .i64 (i : Int) ∧ i + g = m ∧ Hid (fw L g i = F) ∧ w = wx)
  case atStart => exact ⟨t, rfl, by omega, HF.out, rfl⟩
  case round =>
    obtain ⟨i, rfl, hi, HI, rfl⟩ := hrel
    have hw1 : IntKind.i64.wrap ((i : Int) + 1) = ((i + 1 : Nat) : Int) := by rw [IntKind.wrap_i64]; omega
    by_cases hgo : 0 < gk ∧ bl (at8 L i) = true
    · obtain ⟨g, rfl⟩ : ∃ g, gk = g + 1 := ⟨gk - 1, by omega⟩
      have h0 : (0 : Int) ≤ (i : Int) := by omega
      have h1 : (i : Int) < (m : Int) := by omega
      obtain ⟨gg, og, rfl, hcl⟩ := HT.out.at (by omega)
      have hcq := hcl i (by omega)
      have C1 := Hid.mk' (isBlank_any (at8 L i) w)
      rw [hgo.2] at C1
      have HN : Hid (fw L g (i + 1) = F) := by have := HI.out; unfold fw at this; rw [if_pos hgo.2] at this; exact this
      clear hcl hgo
      go_wp2_with (go_at_call 55; refine C1.out.mono ?_; rintro e w' ⟨rfl, hw⟩; have hq := hw.symm; subst hq; clear hw)
      go_roundg g
      case measure => omega
      case rel => exact ⟨i + 1, rfl, by omega, HN.out, rfl⟩
    · have hiF : i = F := by
        have := HI.out
        cases gk with
        | zero => exact this
        | succ g =>
          unfold fw at this
          rw [if_neg (fun h => hgo ⟨by omega, h⟩)] at this
          exact this
      subst hiF
      have hstep : ∀ (Q : Prop), ((i : Int) < (m : Int) → bl (at8 L i) = false → Q) → (¬ ((i : Int) < (m : Int)) → Q) → Q := fun Q h1 h2 => by
        by_cases h : (i : Int) < (m : Int)
        · exact h1 h (by cases hb : bl (at8 L i) with | false => rfl | true => exact absurd ⟨by omega, hb⟩ hgo)
        · exact h2 h
      clear hgo HI
      by_cases him : (i : Int) < (m : Int)
      · have hbf : bl (at8 L i) = false := by
          apply hstep
          · exact fun _ h => h
          · exact fun h => absurd him h
        have h0 : (0 : Int) ≤ (i : Int) := by omega
        obtain ⟨gg, og, rfl, hcl⟩ := HT.out.at (by omega)
        have hcq := hcl i (by omega)
        have C1 := Hid.mk' (isBlank_any (at8 L i) w)
        rw [hbf] at C1
        clear hcl hstep hbf
        go_wp2_with (go_at_call 55; refine C1.out.mono ?_; rintro e w' ⟨rfl, hw⟩; have hq := hw.symm; subst hq; clear hw)
        by_cases hit : i = t
        · obtain rfl := hit
          have hte : ((i : Int) == (i : Int)) = true := by simp
          have HG0 : Hid (bw L f = G) := by have := HG.out; rw [if_pos rfl] at this; exact this
          go_loopg [1] f (fun g x1 wx => x1 = .int .i64 (g : Int) ∧ g ≤ m ∧ Hid (bw L g = G) ∧ w = wx)
          case atStart => exact ⟨rfl, hf, HG0.out, rfl⟩
          case round =>
            obtain ⟨rfl, hjm, HJ, rfl⟩ := hrel
            cases gk with
            | zero =>
              have hj0 : ¬ ((0 : Int) < ((0 : Nat) : Int)) := by omega
              have HG1 : Hid (G = 0) := HJ.out.symm
              go_wp2
              go_ret2
              exact ⟨by rw [HW.out, HG1.out]; rfl, rfl⟩
            | succ j =>
              have hj0 : (0 : Int) < ((j + 1 : Nat) : Int) := by omega
              have hj1 : IntKind.i64.wrap (((j + 1 : Nat) : Int) - 1) = (j : Int) := by rw [IntKind.wrap_i64]; omega
              have hj2 : (0 : Int) ≤ (j : Int) := by omega
              have hj3 : (j : Int) < (m : Int) := by omega
              obtain ⟨gg, og, e0, hcl⟩ := HT.out.at (by omega)
              first | subst e0 | (cases e0)
              have hcj := hcl j (by omega)
              have C2 := Hid.mk' (isBlank_any (at8 L j) w)
              clear hcl
              cases hb : bl (at8 L j) with
              | true =>
                rw [hb] at C2
                have HN : Hid (bw L j = G) := by have := HJ.out; unfold bw at this; rw [if_pos hb] at this; exact this
                clear hb
                go_wp2_with (go_at_call 55; refine C2.out.mono ?_; rintro e w' ⟨rfl, hw⟩; have hq := hw.symm; subst hq; clear hw)
                go_roundg j
                case measure => omega
                case rel => exact ⟨rfl, by omega, HN.out, rfl⟩
              | false =>
                rw [hb] at C2
                have HN : Hid (G = j + 1) := by have := HJ.out; unfold bw at this; rw [hb, if_neg (by simp)] at this; exact this.symm
                clear hb
                go_wp2_with (go_at_call 55; refine C2.out.mono ?_; rintro e w' ⟨rfl, hw⟩; have hq := hw.symm; subst hq; clear hw)
                go_ret2
                exact ⟨by rw [HW.out, HN.out]; rfl, rfl⟩
        · have hte : ((i : Int) == (t : Int)) = false := by simp; omega
          have HG0 : Hid (G = f) := by have := HG.out; rw [if_neg hit] at this; exact this.symm
          go_loopg [1] 0 (fun _ x1 wx => x1 = .int .i64 (f : Int) ∧ w = wx)
          case atStart => exact ⟨rfl, rfl⟩
          case round =>
            obtain ⟨rfl, rfl⟩ := hrel
            clear hit
            go_wp2
            go_ret2
            exact ⟨by rw [HW.out, HG0.out]; rfl, rfl⟩
      · clear hstep
        go_wp2_with fail
        by_cases hit : i = t
        · obtain rfl := hit
          have hte : ((i : Int) == (i : Int)) = true := by simp
          have HG0 : Hid (bw L f = G) := by have := HG.out; rw [if_pos rfl] at this; exact this
          go_loopg [1] f (fun g x1 wx => x1 = .int .i64 (g : Int) ∧ g ≤ m ∧ Hid (bw L g = G) ∧ w = wx)
          case atStart => exact ⟨rfl, hf, HG0.out, rfl⟩
          case round =>
            obtain ⟨rfl, hjm, HJ, rfl⟩ := hrel
            cases gk with
            | zero =>
              have hj0 : ¬ ((0 : Int) < ((0 : Nat) : Int)) := by omega
              have HG1 : Hid (G = 0) := HJ.out.symm
              go_wp2
              go_ret2
              exact ⟨by rw [HW.out, HG1.out]; rfl, rfl⟩
            | succ j =>
              have hj0 : (0 : Int) < ((j + 1 : Nat) : Int) := by omega
              have hj1 : IntKind.i64.wrap (((j + 1 : Nat) : Int) - 1) = (j : Int) := by rw [IntKind.wrap_i64]; omega
              have hj2 : (0 : Int) ≤ (j : Int) := by omega
              have hj3 : (j : Int) < (m : Int) := by omega
              obtain ⟨gg, og, e0, hcl⟩ := HT.out.at (by omega)
              first | subst e0 | (cases e0)
              have hcj := hcl j (by omega)
              have C2 := Hid.mk' (isBlank_any (at8 L j) w)
              clear hcl
              cases hb : bl (at8 L j) with
              | true =>
                rw [hb] at C2
                have HN : Hid (bw L j = G) := by have := HJ.out; unfold bw at this; rw [if_pos hb] at this; exact this
                clear hb
                go_wp2_with (go_at_call 55; refine C2.out.mono ?_; rintro e w' ⟨rfl, hw⟩; have hq := hw.symm; subst hq; clear hw)
                go_roundg j
                case measure => omega
                case rel => exact ⟨rfl, by omega, HN.out, rfl⟩
              | false =>
                rw [hb] at C2
                have HN : Hid (G = j + 1) := by have := HJ.out; unfold bw at this; rw [hb, if_neg (by simp)] at this; exact this.symm
                clear hb
                go_wp2_with (go_at_call 55; refine C2.out.mono ?_; rintro e w' ⟨rfl, hw⟩; have hq := hw.symm; subst hq; clear hw)
                go_ret2
                exact ⟨by rw [HW.out, HN.out]; rfl, rfl⟩
        · have hte : ((i : Int) == (t : Int)) = false := by simp; omega
          have HG0 : Hid (G = f) := by have := HG.out; rw [if_neg hit] at this; exact this.symm
          go_loopg [1] 0 (fun _ x1 wx => x1 = .int .i64 (f : Int) ∧ w = wx)
          case atStart => exact ⟨rfl, rfl⟩
          case round =>
            obtain ⟨rfl, rfl⟩ := hrel
            clear hit
            go_wp2
            go_ret2
            exact ⟨by rw [HW.out, HG0.out]; rfl, rfl⟩
end Go.Proofs.Ytgdhdegmjljbfaa
