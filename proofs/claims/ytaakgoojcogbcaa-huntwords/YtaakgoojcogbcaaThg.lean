/- readThing. -/
import Derived.Test.YtaakgoojcogbcaaRset
namespace Go.Proofs.Ytaakgoojcogbcaa
open Go.RowKit
/-- readSet -/
theorem set_any (w W : World) (B : Nat) (tv : Value) (g o n c a : Nat) (p : List UInt8) (l : List Th) (hl : l.length ≤ 256) (ha : a ≤ 256) (han : a < n) (hn : p.length = n) (hn2 : n ≤ 256) (HT : Hid (Tx w (some ⟨g, o, none⟩) n c p)) (H : Hid (Rd w W B tv (some ⟨g, o, none⟩) n c a l)) :
    Calls Try.prog 52 #[.pointer (some ⟨B, 0, none⟩)] W fun e W' => Left w B (some ⟨g, o, none⟩) n c (setR p a l) e W' := by
  unfold setR
  cases hg : ngd p a with
  | true =>
    have h := hg
    unfold ngd at h
    simp at h
    have hf : fst1 p a = a + 2 := by unfold fst1; rw [hg]; rfl
    have := set_neg w W B tv g o n c a (a + 2) p l (sR p a).1 (sR p a).2.1 (sR p a).2.2 hl ha han hn hn2 HT H rfl (by omega) h.2 (by unfold Hid sR; rw [hf, hn])
    rw [hn]
    exact this
  | false =>
    have h := hg
    unfold ngd at h
    simp at h
    have hf : fst1 p a = a + 1 := by unfold fst1; rw [hg]; rfl
    have := set_plain w W B tv g o n c a (a + 1) p l (sR p a).1 (sR p a).2.1 (sR p a).2.2 hl ha han hn hn2 HT H rfl (fun h1 => h (by omega)) (by unfold Hid sR; rw [hf, hn])
    rw [hn]
    exact this
theorem wv_all : wv (fun x => !(fun _ => false) x) = wv (fun _ => true) := rfl

set_option maxRecDepth 8000 in
set_option maxHeartbeats 8000000 in
theorem thing_any (w W : World) (B : Nat) (tv : Value) (g o n c a : Nat) (p : List UInt8) (l : List Th) (hl : l.length ≤ 256) (ha : a ≤ 256) (han : a < n) (hn : p.length = n) (hn2 : n ≤ 256) (HT : Hid (Tx w (some ⟨g, o, none⟩) n c p)) (H : Hid (Rd w W B tv (some ⟨g, o, none⟩) n c a l)) :
    Calls Try.prog 30 #[.pointer (some ⟨B, 0, none⟩)] W fun e W' => Left w B (some ⟨g, o, none⟩) n c (rd1 p a l) e W' := by
  have c0 : W.cell? ⟨B, 0, none⟩ = some (.slice (some ⟨g, o, none⟩) n c) := H.out.blk.cell (j := 0) rfl
  have c1 : W.cell? ⟨B, 1, none⟩ = some (.int .i64 (a : Int)) := H.out.blk.cell (j := 1) rfl
  have cx : W.cell? ⟨g, o + a, none⟩ = some (.int .u8 (bn p a : Int)) := by
    obtain ⟨g', o', e1, hc⟩ := tx_cell HT.out H.out.bel (i := a) han
    injection e1 with e1; injection e1 with e1 e2 _; subst e1 e2; exact hc a han
  have hlt := bn_lt p a
  have hai : (a : Int) < (n : Int) := by omega
  have hes : Hid (∀ W', Rd w W' B tv (some ⟨g, o, none⟩) n c a l → Calls Try.prog 51 #[.pointer (some ⟨B, 0, none⟩)] W' fun e W'' => Left w B (some ⟨g, o, none⟩) n c (escR p a l) e W'') := fun W' h => esc_any w W' B tv _ n c a p l hl ha han hn hn2 HT h
  have hst : Hid (∀ W', Rd w W' B tv (some ⟨g, o, none⟩) n c a l → Calls Try.prog 50 #[.pointer (some ⟨B, 0, none⟩)] W' fun e W'' => Left w B (some ⟨g, o, none⟩) n c (starR a l) e W'') := fun W' h => star_any w W' B tv _ n c a l hl ha h
  have hse : Hid (∀ W', Rd w W' B tv (some ⟨g, o, none⟩) n c a l → Calls Try.prog 52 #[.pointer (some ⟨B, 0, none⟩)] W' fun e W'' => Left w B (some ⟨g, o, none⟩) n c (setR p a l) e W'') := fun W' h => set_any w W' B tv g o n c a p l hl ha han hn hn2 HT h
  have hta : Hid (∀ t W', Rd w W' B tv (some ⟨g, o, none⟩) n c a l → Calls Try.prog 49 #[.pointer (some ⟨B, 0, none⟩), env t, .int .i64 1] W' fun e W'' => e = .returned (.tuple #[]) ∧ Hid (∃ tv', Rd w W'' B tv' (some ⟨g, o, none⟩) n c (a + 1) (l ++ [t]))) := fun t W' h => take_any w W' B tv _ n c a 1 l t hl ha (by omega) h
  obtain ⟨x, HX⟩ : ∃ x, Hid (bn p a = x) := ⟨_, rfl⟩
  rw [HX.out] at cx hlt
  by_cases k1 : x = 94
  · subst k1
    by_cases a0 : a = 0
    · have HR : Hid (rd1 p a l = (-1, a + 1, l ++ [fre 2])) := by unfold Hid rd1; rw [if_pos ⟨HX.out, a0⟩]
      have a0' : ((a : Int) == 0) = true := by simp; omega
      clear a0
      go_enter Try.func30, Try.ntmps30
      go_wp2_with fail
      go_quiet (fail)
      go_wp2_with fail
      refine (hta.out (fre 2) _ (H.out.keep (by first | exact bDrewN _ _ | exact bT (bDrewN _ _) (bDrewN _ _)))).mono ?_
      rintro e w3 ⟨rfl, hx⟩
      clear hta
      go_wp2
      go_ret
      rw [HR.out]
      exact ⟨rfl, hx.out⟩
    · have HR : Hid (rd1 p a l = (-1, a + 1, l ++ [one fun y => y == 94])) := by unfold Hid rd1; rw [HX.out]; simp [a0]
      have a0' : ((a : Int) == 0) = false := by simp; omega
      go_enter Try.func30, Try.ntmps30
      go_wp2_with fail
      go_quiet (fail)
      go_wp2_with fail
      go_quiet (fail)
      go_wp2_with fail
      refine (single_any 94 _ (by omega)).mono ?_
      rintro e w2 ⟨rfl, hb2⟩
      go_wp2_with fail
      refine (hta.out (one fun y => y == 94) _ (H.out.keep (bT (by first | exact bDrewN _ _ | exact bT (bDrewN _ _) (bDrewN _ _)) hb2))).mono ?_
      rintro e w3 ⟨rfl, hx⟩
      clear hta
      go_wp2
      go_ret
      rw [HR.out]
      exact ⟨rfl, hx.out⟩
  · by_cases k2 : x = 36
    · subst k2
      by_cases a1 : a + 1 = n
      · have HR : Hid (rd1 p a l = (-1, a + 1, l ++ [fre 3])) := by unfold Hid rd1; rw [HX.out, hn]; simp [a1]
        have a1' : ((a : Int) == (n : Int) - 1) = true := by simp; omega
        clear a1
        go_enter Try.func30, Try.ntmps30
        go_wp2_with fail
        go_quiet (fail)
        go_wp2_with fail
        go_quiet (fail)
        go_wp2_with fail
        refine (hta.out (fre 3) _ (H.out.keep (by first | exact bDrewN _ _ | exact bT (bDrewN _ _) (bDrewN _ _)))).mono ?_
        rintro e w3 ⟨rfl, hx⟩
        clear hta
        go_wp2
        go_ret
        rw [HR.out]
        exact ⟨rfl, hx.out⟩
      · have HR : Hid (rd1 p a l = (-1, a + 1, l ++ [one fun y => y == 36])) := by unfold Hid rd1; rw [HX.out, hn]; simp [a1]
        have a1' : ((a : Int) == (n : Int) - 1) = false := by simp; omega
        go_enter Try.func30, Try.ntmps30
        go_wp2_with fail
        go_quiet (fail)
        go_wp2_with fail
        go_quiet (fail)
        go_wp2_with fail
        refine (single_any 36 _ (by omega)).mono ?_
        rintro e w2 ⟨rfl, hb2⟩
        go_wp2_with fail
        refine (hta.out (one fun y => y == 36) _ (H.out.keep (bT (by first | exact bDrewN _ _ | exact bT (bDrewN _ _) (bDrewN _ _)) hb2))).mono ?_
        rintro e w3 ⟨rfl, hx⟩
        clear hta
        go_wp2
        go_ret
        rw [HR.out]
        exact ⟨rfl, hx.out⟩
    · by_cases k3 : x = 42
      · subst k3
        have HR : Hid (rd1 p a l = starR a l) := by unfold Hid rd1; rw [HX.out]; simp [starR]
        generalize starR a l = R at *
        go_enter Try.func30, Try.ntmps30
        go_wp2_with fail
        go_quiet (fail)
        go_wp2_with fail
        go_quiet (fail)
        go_wp2_with fail
        refine (hst.out _ (H.out.keep (by first | exact bDrewN _ _ | exact bT (bDrewN _ _) (bDrewN _ _)))).mono ?_
        rintro e w3 ⟨he, hx⟩
        subst he
        have HX3 := Hid.mk' hx
        clear hx
        rw [← HR.out] at HX3 ⊢
        go_wp2
        go_ret
        exact ⟨rfl, HX3.out⟩
      · by_cases k4 : x = 92
        · subst k4
          have HR : Hid (rd1 p a l = escR p a l) := by unfold Hid rd1; rw [HX.out]; simp [escR]
          generalize escR p a l = R at *
          go_enter Try.func30, Try.ntmps30
          go_wp2_with fail
          go_quiet (fail)
          go_wp2_with fail
          go_quiet (fail)
          go_wp2_with fail
          refine (hes.out _ (H.out.keep (by first | exact bDrewN _ _ | exact bT (bDrewN _ _) (bDrewN _ _)))).mono ?_
          rintro e w3 ⟨he, hx⟩
          subst he
          have HX3 := Hid.mk' hx
          clear hx
          rw [← HR.out] at HX3 ⊢
          go_wp2
          go_ret
          exact ⟨rfl, HX3.out⟩
        · by_cases k5 : x = 91
          · subst k5
            have HR : Hid (rd1 p a l = setR p a l) := by unfold Hid rd1; rw [HX.out]; simp [setR]
            generalize setR p a l = R at *
            go_enter Try.func30, Try.ntmps30
            go_wp2_with fail
            go_quiet (fail)
            go_wp2_with fail
            go_quiet (fail)
            go_wp2_with fail
            refine (hse.out _ (H.out.keep (by first | exact bDrewN _ _ | exact bT (bDrewN _ _) (bDrewN _ _)))).mono ?_
            rintro e w3 ⟨he, hx⟩
            subst he
            have HX3 := Hid.mk' hx
            clear hx
            rw [← HR.out] at HX3 ⊢
            go_wp2
            go_ret
            exact ⟨rfl, HX3.out⟩
          · by_cases k6 : x = 46
            · subst k6
              have HR : Hid (rd1 p a l = (-1, a + 1, l ++ [one fun _ => true])) := by unfold Hid rd1; rw [HX.out]; simp
              go_enter Try.func30, Try.ntmps30
              go_wp2_with fail
              go_quiet (fail)
              go_wp2_with fail
              go_quiet (fail)
              go_wp2_with fail
              refine (others_any (fun _ => false) _).mono ?_
              rintro e w2 ⟨rfl, hb2⟩
              go_wp2_with fail
              refine (hta.out (one fun _ => true) _ (H.out.keep (bT (by first | exact bDrewN _ _ | exact bT (bDrewN _ _) (bDrewN _ _)) hb2))).mono ?_
              rintro e w3 ⟨rfl, hx⟩
              clear hta
              go_wp2
              go_ret
              rw [HR.out]
              exact ⟨rfl, hx.out⟩
            · have HR : Hid (rd1 p a l = (-1, a + 1, l ++ [one fun y => y == x])) := by unfold Hid rd1; rw [HX.out]; simp [k1, k2, k3, k4, k5, k6]
              have k1' : ((x : Int) == 94) = false := by simp; omega
              have k2' : ((x : Int) == 36) = false := by simp; omega
              have k3' : ((x : Int) == 42) = false := by simp; omega
              have k4' : ((x : Int) == 92) = false := by simp; omega
              have k5' : ((x : Int) == 91) = false := by simp; omega
              have k6' : ((x : Int) == 46) = false := by simp; omega
              go_enter Try.func30, Try.ntmps30
              go_wp2_with fail
              go_quiet (fail)
              go_wp2_with fail
              go_quiet (fail)
              go_wp2_with fail
              refine (single_any x _ (by omega)).mono ?_
              rintro e w2 ⟨rfl, hb2⟩
              go_wp2_with fail
              refine (hta.out (one fun y => y == x) _ (H.out.keep (bT (by first | exact bDrewN _ _ | exact bT (bDrewN _ _) (bDrewN _ _)) hb2))).mono ?_
              rintro e w3 ⟨rfl, hx⟩
              clear hta
              go_wp2
              go_ret
              rw [HR.out]
              exact ⟨rfl, hx.out⟩
end Go.Proofs.Ytaakgoojcogbcaa
