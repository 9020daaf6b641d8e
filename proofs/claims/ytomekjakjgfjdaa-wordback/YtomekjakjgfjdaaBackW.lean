/- The walk of quoinlaw08.WordBack: it answers true for every text and place. -/
import Derived.Test.YtomekjakjgfjdaaSteps
import Derived.Test.YtomekjakjgfjdaaRef
import Derived.Deep.CutRange
namespace Go.Proofs.Ytomekjakjgfjdaa
open Go.RowKit

theorem backW_f {l : List UInt8} {p : Nat} (hp : p ≤ l.length) (h : bgn l false p = true) : mv l p 1 { data := #[119] } = ⟨0, 0, 0, 70⟩ ∨ ∃ q : Nat, q ≤ l.length ∧ mv l p 1 { data := #[119] } = ⟨p, q, 1, 0⟩ ∧ mv l q 1 { data := #[98] } = ⟨q, p, 1, 0⟩ := by
  have k1 : kn { data := #[119] } = 1 := by decide +kernel
  have k2 : kn { data := #[98] } = 3 := by decide +kernel
  by_cases hq : tgt l p 1 1 = p
  · exact .inl (mv_stay hp (by omega) (by omega) (by rw [k1]; decide) (by rw [k1]; exact hq))
  · have a := mv_goes (s := { data := #[119] }) (cnt := 1) hp (by omega) (by omega) (by rw [k1]; decide) (by rw [k1]; rfl) hq
    have hb : tgt l (tgt l p 1 1) 1 3 = p := back_w hp h rfl hq
    have b := mv_goes (s := { data := #[98] }) (cnt := 1) (q := p) (tgt_le (m := 1) (k := 1) hp) (by omega) (by omega) (by rw [k2]; decide) (by rw [k2]; exact hb) (fun h => hq h.symm)
    rw [k1] at a
    rw [k2] at b
    exact .inr ⟨_, tgt_le hp, a, b⟩
theorem backE_f {l : List UInt8} {p : Nat} (hp : p ≤ l.length) (h : ndg l false p = true) : mv l p 1 { data := #[101] } = ⟨0, 0, 0, 70⟩ ∨ ∃ q : Nat, p < q ∧ q ≤ l.length ∧ mv l p 1 { data := #[101] } = ⟨p, q, 2, 0⟩ ∧ ((∀ r, p < r → r < q → el l r = false) → mv l q 1 { data := #[103, 101] } = ⟨q, p, 2, 0⟩) := by
  have k1 : kn { data := #[101] } = 5 := by decide +kernel
  have k2 : kn { data := #[103, 101] } = 7 := by decide +kernel
  by_cases hq : tgt l p 1 5 = p
  · exact .inl (mv_stay hp (by omega) (by omega) (by rw [k1]; decide) (by rw [k1]; exact hq))
  · have a := mv_goes (s := { data := #[101] }) (cnt := 1) hp (by omega) (by omega) (by rw [k1]; decide) (by rw [k1]; rfl) hq
    rw [k1] at a
    have hup := tgt_up (l := l) (m := 1) (k := 5) (by omega) hp rfl
    refine .inr ⟨_, by omega, tgt_le hp, a, fun hel => ?_⟩
    have hb : tgt l (tgt l p 1 5) 1 7 = p := back_e hp h rfl hq hel
    have b := mv_goes (s := { data := #[103, 101] }) (cnt := 1) (q := p) (tgt_le (m := 1) (k := 5) hp) (by omega) (by omega) (by rw [k2]; decide) (by rw [k2]; exact hb) (fun h => hq h.symm)
    rw [k2] at b
    exact b

set_option maxRecDepth 4000 in
set_option maxHeartbeats 4000000 in
theorem back_f (ao : Option Addr) (n c p : Nat) (l : List UInt8) (w : World) (hp : p ≤ n) (HT : Hid (Tx w ao n c l)) :
    Calls Try.prog 6 #[.slice ao n c, .int .i64 p, .bool false] w fun e w' => e = .returned (.bool true) ∧ Below w.heap.size w w' := by
  have hl := HT.out.len
  have HW := Hid.mk' (backW_f (l := l) (p := p) (by omega))
  have HE := Hid.mk' (backE_f (l := l) (p := p) (by omega))
  rw [hl] at HW HE
  clear hl
  have hbig : (n : Int) ≤ 140737488355328 := by have := HT.out.big; omega
  have hpn : (p : Int) ≤ (n : Int) := by omega
  have hp0 : (0 : Int) ≤ (p : Int) := by omega
  go_enter Try.func6, Try.ntmps6
  go_wp2_with fail
  refine (alive_any _).mono ?_
  rintro e w1 ⟨rfl, hb1⟩
  have B1 := Hid.mk' hb1
  have T1 := Hid.mk' (HT.out.keep hb1)
  clear hb1
  go_upto_region 8 with fail
  go_cut [39] from 22 to 118 (fun x39 wx => x39 = .bool (bgn l false p) ∧ wx = w1)
  case first =>
    have C1 := Hid.mk' (starts_any false hp T1)
    have C2 := Hid.mk' (bare_any hp T1)
    have HB := Hid.mk' (bgn_rb l false p)
    generalize bgn l false p = r at *
    generalize rb l false p = x at *
    generalize el l p = y at *
    cases x
    all_goals
      go_wp2_with (first | (go_at_call 12; refine C1.out.mono ?_; rintro e w' ⟨rfl, hw⟩; have hq := hw.symm; subst hq; clear hw) | (go_at_call 13; refine C2.out.mono ?_; rintro e w' ⟨rfl, hw⟩; have hq := hw.symm; subst hq; clear hw))
      go_meet
      case rel => exact ⟨by rw [HB.out]; simp, rfl⟩
  case rest =>
    obtain ⟨rfl, rfl⟩ := hcut
    go_upto_if 39 with fail
    go_cut [11, 12, 13, 14] from 22 to 118 (fun x11 x12 x13 x14 wx => Below wc.heap.size wc wx)
    case first =>
      cases hbg : bgn l false p with
      | false =>
        go_wp2
        go_meet
        case rel => exact Below.refl _ _
      | true =>
        have HX := Hid.mk' (HW.out hbg)
        clear HW HE hbg
        go_wp2_with fail
        refine (move_any ao n c p 1 l _ _ T1).mono ?_
        rintro e w2 ⟨rfl, hb2⟩
        have T2 := Hid.mk' (T1.out.keep hb2)
        have B2 := Hid.mk' hb2
        clear hb2
        rcases HX.out with e1 | ⟨q, hq, e1, e2⟩
        · rw [e1, mvE_def]
          clear e1
          dsimp only
          go_wp2
          go_meet
          case rel => exact bAlloc B2.out _
        · rw [e1, mvE_def]
          have E2 := Hid.mk' e2
          clear e1 e2 HX
          dsimp only
          have T2' := Hid.mk' fun x => Hid.mk' (T2.out.keep (bAlloc (Below.refl _ _) x))
          have C1 := Hid.mk' fun x => starts_any false hq (T2'.out x)
          have C2 := Hid.mk' fun x => bare_any hq (T2'.out x)
          generalize rb l false q = x at *
          generalize el l q = y at *
          have hq0 : (0 : Int) ≤ (q : Int) := by omega
          cases x
          · cases y
            · go_wp2_with (first | (go_at_call 12; refine (C1.out _).mono ?_; rintro e w' ⟨rfl, hw⟩; have hq := hw.symm; subst hq; clear hw) | (go_at_call 13; refine (C2.out _).mono ?_; rintro e w' ⟨rfl, hw⟩; have hq := hw.symm; subst hq; clear hw))
              go_meet
              case rel => exact bAlloc B2.out _
            · go_wp2_with (first | (go_at_call 12; refine (C1.out _).mono ?_; rintro e w' ⟨rfl, hw⟩; have hq := hw.symm; subst hq; clear hw) | (go_at_call 13; refine (C2.out _).mono ?_; rintro e w' ⟨rfl, hw⟩; have hq := hw.symm; subst hq; clear hw))
              refine (move_any ao n c q 1 l _ _ (T2'.out _)).mono ?_
              rintro e w3 ⟨rfl, hb3⟩
              have B3 := Hid.mk' (bT (bAlloc B2.out _) hb3)
              clear hb3
              rw [E2.out, mvE_def]
              dsimp only
              go_wp2
              go_meet
              case rel => exact bAlloc B3.out _
          · go_wp2_with (first | (go_at_call 12; refine (C1.out _).mono ?_; rintro e w' ⟨rfl, hw⟩; have hq := hw.symm; subst hq; clear hw) | (go_at_call 13; refine (C2.out _).mono ?_; rintro e w' ⟨rfl, hw⟩; have hq := hw.symm; subst hq; clear hw))
            refine (move_any ao n c q 1 l _ _ (T2'.out _)).mono ?_
            rintro e w3 ⟨rfl, hb3⟩
            have B3 := Hid.mk' (bT (bAlloc B2.out _) hb3)
            clear hb3
            rw [E2.out, mvE_def]
            dsimp only
            go_wp2
            go_meet
            case rel => exact bAlloc B3.out _
    case rest =>
      have B2 := Hid.mk' (bT B1.out hcut)
      have T2 := Hid.mk' (HT.out.keep B2.out)
      clear hcut HW
      have C1 := Hid.mk' (ends_any false hp T2)
      cases hn : ndg l false p with
      | false =>
        rw [hn] at C1
        go_wp2_with (go_at_call 14; refine C1.out.mono ?_; rintro e w' ⟨rfl, hw⟩; have hq := hw.symm; subst hq; clear hw)
        go_ret
        exact ⟨rfl, B2.out⟩
      | true =>
        have HX := Hid.mk' (HE.out hn)
        rw [hn] at C1
        clear HE hn
        go_wp2_with (go_at_call 14; refine C1.out.mono ?_; rintro e w' ⟨rfl, hw⟩; have hq := hw.symm; subst hq; clear hw)
        refine (move_any ao n c p 1 l _ _ T2).mono ?_
        rintro e w3 ⟨rfl, hb3⟩
        have B3 := Hid.mk' (bT B2.out hb3)
        clear hb3
        rcases HX.out with e1 | ⟨q, hpq, hq, e1, e2⟩
        · rw [e1, mvE_def]
          clear e1
          dsimp only
          go_wp2
          go_ret
          exact ⟨rfl, bAlloc B3.out _⟩
        · rw [e1, mvE_def]
          have E2 := Hid.mk' e2
          clear e1 e2 HX C1
          dsimp only
          go_wp2_with fail
          have B4 := Hid.mk' (bAlloc B3.out (.cells #[.int .i64 p, .int .i64 q, .int .i64 2] 27))
          have d1 : (w3.alloc (.cells #[.int .i64 p, .int .i64 q, .int .i64 2] 27)).cell? ⟨w3.heap.size, 1, none⟩ = some (.int .i64 q) := by simp [go_sem]
          generalize w3.alloc (.cells #[.int .i64 p, .int .i64 q, .int .i64 2] 27) = W3 at *
          have T3 := Hid.mk' (HT.out.keep B4.out)
          go_loopw [17] (fun u wr => ∃ t : Nat, u = .int .i64 t ∧ p < t ∧ t ≤ q ∧ Hid (∀ r, p < r → r < t → el l r = false) ∧ wr = W3) (fun u _ => q - (intOf u).toNat)
          case atStart => exact ⟨p + 1, by go_num, by omega, by omega, fun r h1 h2 => by omega, rfl⟩
          case round =>
            obtain ⟨t, rfl, hpt, htq, HN, rfl⟩ := hrel
            have hq1 : (q : Int) ≤ (n : Int) := by omega
            have ht0 : (0 : Int) ≤ (t : Int) := by omega
            by_cases hlt : t < q
            · have hlt' : (t : Int) < (q : Int) := by omega
              have C2 := Hid.mk' (bare_any (k := t) (by omega) T3)
              cases hel : el l t with
              | true =>
                rw [hel] at C2
                go_wp2_with (go_at_call 13; refine C2.out.mono ?_; rintro e w' ⟨rfl, hw⟩; have hq := hw.symm; subst hq; clear hw)
                go_ret
                exact ⟨rfl, B4.out⟩
              | false =>
                rw [hel] at C2
                have HM : Hid (∀ r, p < r → r < t + 1 → el l r = false) := fun r h1 h2 => by
                  rcases Nat.lt_or_ge r t with h | h
                  · exact HN.out r h1 h
                  · rw [show r = t from by omega]; exact hel
                go_wp2_with (go_at_call 13; refine C2.out.mono ?_; rintro e w' ⟨rfl, hw⟩; have hq := hw.symm; subst hq; clear hw)
                go_roundw
                case rel => exact ⟨t + 1, by go_num, by omega, by omega, HM.out, by first | rfl | trivial⟩
                case measure => first | (simp [intOf]; done) | (simp [intOf]; omega)
            · obtain rfl : t = q := by omega
              have E3 := Hid.mk' (E2.out HN.out)
              go_wp2_with fail
              refine (move_any ao n c t 1 l _ _ T3).mono ?_
              rintro e w5 ⟨rfl, hb5⟩
              have B5 := Hid.mk' (bT B4.out hb5)
              clear hb5
              rw [E3.out, mvE_def]
              dsimp only
              go_wp2
              go_ret
              exact ⟨rfl, bAlloc B5.out _⟩
theorem backW_t {l : List UInt8} {p : Nat} (hp : p ≤ l.length) (h : bgn l true p = true) : mv l p 1 { data := #[87] } = ⟨0, 0, 0, 70⟩ ∨ ∃ q : Nat, q ≤ l.length ∧ mv l p 1 { data := #[87] } = ⟨p, q, 1, 0⟩ ∧ mv l q 1 { data := #[66] } = ⟨q, p, 1, 0⟩ := by
  have k1 : kn { data := #[87] } = 2 := by decide +kernel
  have k2 : kn { data := #[66] } = 4 := by decide +kernel
  by_cases hq : tgt l p 1 2 = p
  · exact .inl (mv_stay hp (by omega) (by omega) (by rw [k1]; decide) (by rw [k1]; exact hq))
  · have a := mv_goes (s := { data := #[87] }) (cnt := 1) hp (by omega) (by omega) (by rw [k1]; decide) (by rw [k1]; rfl) hq
    have hb : tgt l (tgt l p 1 2) 1 4 = p := back_w hp h rfl hq
    have b := mv_goes (s := { data := #[66] }) (cnt := 1) (q := p) (tgt_le (m := 1) (k := 2) hp) (by omega) (by omega) (by rw [k2]; decide) (by rw [k2]; exact hb) (fun h => hq h.symm)
    rw [k1] at a
    rw [k2] at b
    exact .inr ⟨_, tgt_le hp, a, b⟩
theorem backE_t {l : List UInt8} {p : Nat} (hp : p ≤ l.length) (h : ndg l true p = true) : mv l p 1 { data := #[69] } = ⟨0, 0, 0, 70⟩ ∨ ∃ q : Nat, p < q ∧ q ≤ l.length ∧ mv l p 1 { data := #[69] } = ⟨p, q, 2, 0⟩ ∧ ((∀ r, p < r → r < q → el l r = false) → mv l q 1 { data := #[103, 69] } = ⟨q, p, 2, 0⟩) := by
  have k1 : kn { data := #[69] } = 6 := by decide +kernel
  have k2 : kn { data := #[103, 69] } = 8 := by decide +kernel
  by_cases hq : tgt l p 1 6 = p
  · exact .inl (mv_stay hp (by omega) (by omega) (by rw [k1]; decide) (by rw [k1]; exact hq))
  · have a := mv_goes (s := { data := #[69] }) (cnt := 1) hp (by omega) (by omega) (by rw [k1]; decide) (by rw [k1]; rfl) hq
    rw [k1] at a
    have hup := tgt_up (l := l) (m := 1) (k := 6) (by omega) hp rfl
    refine .inr ⟨_, by omega, tgt_le hp, a, fun hel => ?_⟩
    have hb : tgt l (tgt l p 1 6) 1 8 = p := back_e hp h rfl hq hel
    have b := mv_goes (s := { data := #[103, 69] }) (cnt := 1) (q := p) (tgt_le (m := 1) (k := 6) hp) (by omega) (by omega) (by rw [k2]; decide) (by rw [k2]; exact hb) (fun h => hq h.symm)
    rw [k2] at b
    exact b

set_option maxRecDepth 4000 in
set_option maxHeartbeats 4000000 in
theorem back_t (ao : Option Addr) (n c p : Nat) (l : List UInt8) (w : World) (hp : p ≤ n) (HT : Hid (Tx w ao n c l)) :
    Calls Try.prog 6 #[.slice ao n c, .int .i64 p, .bool true] w fun e w' => e = .returned (.bool true) ∧ Below w.heap.size w w' := by
  have hl := HT.out.len
  have HW := Hid.mk' (backW_t (l := l) (p := p) (by omega))
  have HE := Hid.mk' (backE_t (l := l) (p := p) (by omega))
  rw [hl] at HW HE
  clear hl
  have hbig : (n : Int) ≤ 140737488355328 := by have := HT.out.big; omega
  have hpn : (p : Int) ≤ (n : Int) := by omega
  have hp0 : (0 : Int) ≤ (p : Int) := by omega
  go_enter Try.func6, Try.ntmps6
  go_wp2_with fail
  refine (alive_any _).mono ?_
  rintro e w1 ⟨rfl, hb1⟩
  have B1 := Hid.mk' hb1
  have T1 := Hid.mk' (HT.out.keep hb1)
  clear hb1
  go_upto_region 8 with fail
  go_cut [39] from 22 to 118 (fun x39 wx => x39 = .bool (bgn l true p) ∧ wx = w1)
  case first =>
    have C1 := Hid.mk' (starts_any true hp T1)
    have C2 := Hid.mk' (bare_any hp T1)
    have HB := Hid.mk' (bgn_rb l true p)
    generalize bgn l true p = r at *
    generalize rb l true p = x at *
    generalize el l p = y at *
    cases x
    all_goals
      go_wp2_with (first | (go_at_call 12; refine C1.out.mono ?_; rintro e w' ⟨rfl, hw⟩; have hq := hw.symm; subst hq; clear hw) | (go_at_call 13; refine C2.out.mono ?_; rintro e w' ⟨rfl, hw⟩; have hq := hw.symm; subst hq; clear hw))
      go_meet
      case rel => exact ⟨by rw [HB.out]; simp, rfl⟩
  case rest =>
    obtain ⟨rfl, rfl⟩ := hcut
    go_upto_if 39 with fail
    go_cut [11, 12, 13, 14] from 22 to 118 (fun x11 x12 x13 x14 wx => Below wc.heap.size wc wx)
    case first =>
      cases hbg : bgn l true p with
      | false =>
        go_wp2
        go_meet
        case rel => exact Below.refl _ _
      | true =>
        have HX := Hid.mk' (HW.out hbg)
        clear HW HE hbg
        go_wp2_with fail
        refine (move_any ao n c p 1 l _ _ T1).mono ?_
        rintro e w2 ⟨rfl, hb2⟩
        have T2 := Hid.mk' (T1.out.keep hb2)
        have B2 := Hid.mk' hb2
        clear hb2
        rcases HX.out with e1 | ⟨q, hq, e1, e2⟩
        · rw [e1, mvE_def]
          clear e1
          dsimp only
          go_wp2
          go_meet
          case rel => exact bAlloc B2.out _
        · rw [e1, mvE_def]
          have E2 := Hid.mk' e2
          clear e1 e2 HX
          dsimp only
          have T2' := Hid.mk' fun x => Hid.mk' (T2.out.keep (bAlloc (Below.refl _ _) x))
          have C1 := Hid.mk' fun x => starts_any true hq (T2'.out x)
          have C2 := Hid.mk' fun x => bare_any hq (T2'.out x)
          generalize rb l true q = x at *
          generalize el l q = y at *
          have hq0 : (0 : Int) ≤ (q : Int) := by omega
          cases x
          · cases y
            · go_wp2_with (first | (go_at_call 12; refine (C1.out _).mono ?_; rintro e w' ⟨rfl, hw⟩; have hq := hw.symm; subst hq; clear hw) | (go_at_call 13; refine (C2.out _).mono ?_; rintro e w' ⟨rfl, hw⟩; have hq := hw.symm; subst hq; clear hw))
              go_meet
              case rel => exact bAlloc B2.out _
            · go_wp2_with (first | (go_at_call 12; refine (C1.out _).mono ?_; rintro e w' ⟨rfl, hw⟩; have hq := hw.symm; subst hq; clear hw) | (go_at_call 13; refine (C2.out _).mono ?_; rintro e w' ⟨rfl, hw⟩; have hq := hw.symm; subst hq; clear hw))
              refine (move_any ao n c q 1 l _ _ (T2'.out _)).mono ?_
              rintro e w3 ⟨rfl, hb3⟩
              have B3 := Hid.mk' (bT (bAlloc B2.out _) hb3)
              clear hb3
              rw [E2.out, mvE_def]
              dsimp only
              go_wp2
              go_meet
              case rel => exact bAlloc B3.out _
          · go_wp2_with (first | (go_at_call 12; refine (C1.out _).mono ?_; rintro e w' ⟨rfl, hw⟩; have hq := hw.symm; subst hq; clear hw) | (go_at_call 13; refine (C2.out _).mono ?_; rintro e w' ⟨rfl, hw⟩; have hq := hw.symm; subst hq; clear hw))
            refine (move_any ao n c q 1 l _ _ (T2'.out _)).mono ?_
            rintro e w3 ⟨rfl, hb3⟩
            have B3 := Hid.mk' (bT (bAlloc B2.out _) hb3)
            clear hb3
            rw [E2.out, mvE_def]
            dsimp only
            go_wp2
            go_meet
            case rel => exact bAlloc B3.out _
    case rest =>
      have B2 := Hid.mk' (bT B1.out hcut)
      have T2 := Hid.mk' (HT.out.keep B2.out)
      clear hcut HW
      have C1 := Hid.mk' (ends_any true hp T2)
      cases hn : ndg l true p with
      | false =>
        rw [hn] at C1
        go_wp2_with (go_at_call 14; refine C1.out.mono ?_; rintro e w' ⟨rfl, hw⟩; have hq := hw.symm; subst hq; clear hw)
        go_ret
        exact ⟨rfl, B2.out⟩
      | true =>
        have HX := Hid.mk' (HE.out hn)
        rw [hn] at C1
        clear HE hn
        go_wp2_with (go_at_call 14; refine C1.out.mono ?_; rintro e w' ⟨rfl, hw⟩; have hq := hw.symm; subst hq; clear hw)
        refine (move_any ao n c p 1 l _ _ T2).mono ?_
        rintro e w3 ⟨rfl, hb3⟩
        have B3 := Hid.mk' (bT B2.out hb3)
        clear hb3
        rcases HX.out with e1 | ⟨q, hpq, hq, e1, e2⟩
        · rw [e1, mvE_def]
          clear e1
          dsimp only
          go_wp2
          go_ret
          exact ⟨rfl, bAlloc B3.out _⟩
        · rw [e1, mvE_def]
          have E2 := Hid.mk' e2
          clear e1 e2 HX C1
          dsimp only
          go_wp2_with fail
          have B4 := Hid.mk' (bAlloc B3.out (.cells #[.int .i64 p, .int .i64 q, .int .i64 2] 27))
          have d1 : (w3.alloc (.cells #[.int .i64 p, .int .i64 q, .int .i64 2] 27)).cell? ⟨w3.heap.size, 1, none⟩ = some (.int .i64 q) := by simp [go_sem]
          generalize w3.alloc (.cells #[.int .i64 p, .int .i64 q, .int .i64 2] 27) = W3 at *
          have T3 := Hid.mk' (HT.out.keep B4.out)
          go_loopw [17] (fun u wr => ∃ t : Nat, u = .int .i64 t ∧ p < t ∧ t ≤ q ∧ Hid (∀ r, p < r → r < t → el l r = false) ∧ wr = W3) (fun u _ => q - (intOf u).toNat)
          case atStart => exact ⟨p + 1, by go_num, by omega, by omega, fun r h1 h2 => by omega, rfl⟩
          case round =>
            obtain ⟨t, rfl, hpt, htq, HN, rfl⟩ := hrel
            have hq1 : (q : Int) ≤ (n : Int) := by omega
            have ht0 : (0 : Int) ≤ (t : Int) := by omega
            by_cases hlt : t < q
            · have hlt' : (t : Int) < (q : Int) := by omega
              have C2 := Hid.mk' (bare_any (k := t) (by omega) T3)
              cases hel : el l t with
              | true =>
                rw [hel] at C2
                go_wp2_with (go_at_call 13; refine C2.out.mono ?_; rintro e w' ⟨rfl, hw⟩; have hq := hw.symm; subst hq; clear hw)
                go_ret
                exact ⟨rfl, B4.out⟩
              | false =>
                rw [hel] at C2
                have HM : Hid (∀ r, p < r → r < t + 1 → el l r = false) := fun r h1 h2 => by
                  rcases Nat.lt_or_ge r t with h | h
                  · exact HN.out r h1 h
                  · rw [show r = t from by omega]; exact hel
                go_wp2_with (go_at_call 13; refine C2.out.mono ?_; rintro e w' ⟨rfl, hw⟩; have hq := hw.symm; subst hq; clear hw)
                go_roundw
                case rel => exact ⟨t + 1, by go_num, by omega, by omega, HM.out, by first | rfl | trivial⟩
                case measure => first | (simp [intOf]; done) | (simp [intOf]; omega)
            · obtain rfl : t = q := by omega
              have E3 := Hid.mk' (E2.out HN.out)
              go_wp2_with fail
              refine (move_any ao n c t 1 l _ _ T3).mono ?_
              rintro e w5 ⟨rfl, hb5⟩
              have B5 := Hid.mk' (bT B4.out hb5)
              clear hb5
              rw [E3.out, mvE_def]
              dsimp only
              go_wp2
              go_ret
              exact ⟨rfl, bAlloc B5.out _⟩
set_option maxHeartbeats 1000000 in
theorem back_no (ao : Option Addr) (n c : Nat) (i : Int) (big : Bool) (w : World) (h : i < 0 ∨ (n : Int) < i) :
    Calls Try.prog 6 #[.slice ao n c, .int .i64 i, .bool big] w fun e w' => e = .returned (.bool true) ∧ Below w.heap.size w w' := by
  rcases h with h | h
  all_goals
    go_enter Try.func6, Try.ntmps6
    go_wp2_with fail
    refine (alive_any _).mono ?_
    rintro e w1 ⟨rfl, hb1⟩
    have B1 := Hid.mk' hb1
    clear hb1
    go_wp2
    all_goals go_ret
    all_goals exact ⟨rfl, B1.out⟩
theorem wordBack_walk (ao : Option Addr) (n c : Nat) (i : Int) (big : Bool) (l : List UInt8) (w : World) (HT : Hid (Tx w ao n c l)) :
    Calls Try.prog 6 #[.slice ao n c, .int .i64 i, .bool big] w fun e w' => e = .returned (.bool true) ∧ Below w.heap.size w w' := by
  by_cases h : i < 0 ∨ (n : Int) < i
  · exact back_no ao n c i big w h
  · obtain ⟨p, rfl⟩ := Int.eq_ofNat_of_zero_le (show 0 ≤ i by omega)
    cases big
    · exact back_f ao n c p l w (by omega) HT
    · exact back_t ao n c p l w (by omega) HT
end Go.Proofs.Ytomekjakjgfjdaa
