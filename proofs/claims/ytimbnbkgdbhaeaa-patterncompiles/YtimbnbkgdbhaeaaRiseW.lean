/- PatternRises, walked. -/
import Derived.Test.YtimbnbkgdbhaeaaAll
import Derived.Test.YtimbnbkgdbhaeaaFromW
import Derived.ChangeKeysEq
namespace Go.Proofs.Ytimbnbkgdbhaeaa
open Go.RowKit
theorem pvs_at (xs : List (Nat × Nat)) : ∀ {i : Nat} {a b : Nat}, xs[i]? = some (a, b) → (pvs xs)[i * 2]? = some (.int .i64 (a : Int)) ∧ (pvs xs)[i * 2 + 1]? = some (.int .i64 (b : Int)) := by
  induction xs with
  | nil => intro i a b h; simp at h
  | cons x r ih =>
    intro i a b h
    cases i with
    | zero => simp at h; subst h; simp [pvs]
    | succ i =>
      have := ih (i := i) (a := a) (b := b) (by simpa using h)
      rw [show (i + 1) * 2 = i * 2 + 1 + 1 by omega]
      simpa [pvs] using this
theorem plain3 : Try.prog.plainKey 3 = true := by kernel_rfl
theorem cellsOf3 : Try.prog.cellsOf 3 = 1 := by kernel_rfl
theorem eq41 (s o : Int) (W : World) : (Op.equalIn 10000 41 (.agg #[.int .i64 s, .int .i64 o]) (.agg #[.int .i64 s, .int .i64 o])).run Try.prog W = .ok true W := by
  obtain ⟨i, hi⟩ : ∃ i, Try.prog.info? 3 = some i := by
    have := info3
    cases h : Try.prog.info? 3 with
    | none => rw [h] at this; cases this
    | some i => exact ⟨i, rfl⟩
  rw [run_equalIn_array W 9999 _ _ Try.underlying41 hi, cellsOf3]
  have e2 : List.range 2 = [0, 1] := by decide
  have p0 := run_part_plain (P := Try.prog) W (e := 3) plain3 (xs := #[Value.int .i64 s, .int .i64 o]) (off := 0) (v := .int .i64 s) rfl
  have p1 := run_part_plain (P := Try.prog) W (e := 3) plain3 (xs := #[Value.int .i64 s, .int .i64 o]) (off := 1) (v := .int .i64 o) rfl
  have q0 := run_equalIn_int (P := Try.prog) W 9998 3 .i64 .i64 s s Try.underlying3
  have q1 := run_equalIn_int (P := Try.prog) W 9998 3 .i64 .i64 o o Try.underlying3
  rw [e2]
  simp [Op.eqItems, p0, p1, q0, q1]
theorem row_cell {W : World} {base e size n g c : Nat} {xs : List Value} {j : Nat} {u : Value} (h : W.ownsRow base e size (.slice (some ⟨g, 0, none⟩) n c) n xs) (hj : xs[j]? = some u) : W.cell? ⟨g, j, none⟩ = some u := by
  rcases own_srv h with ⟨e, _⟩ | ⟨ad, c, e, hc⟩
  · cases e
  · injection e with e _ _
    injection e with e
    have := hc j _ hj
    rw [← e, add_none, Nat.zero_add] at this
    exact this

set_option maxRecDepth 8000 in
set_option maxHeartbeats 8000000 in
theorem patternRises_walk (w : World) (ap : Option Addr) (np cp : Nat) (al : Option Addr) (nl cl : Nat) (p line : List UInt8) (HP : Hid (Tx w ap np cp p)) (HL : Hid (Tx w al nl cl line)) :
    Calls Try.prog 8 #[.slice ap np cp, .slice al nl cl] w fun e w' => e = .returned (.bool true) ∧ Below w.heap.size w w' := by
  have hlen := HL.out.len
  go_enter Try.func8, Try.ntmps8
  go_wp2_with (go_at_call 9; refine (alive_any _).mono ?_; rintro e w1 ⟨rfl, hb1⟩; have B1 := Hid.mk' hb1; clear hb1)
  refine (compile_any ap np cp p w1 (HP.out.keep B1.out)).mono ?_
  intro e w3 hC
  obtain ⟨hb3, h | h | h⟩ := hC
  · obtain ⟨_, rfl⟩ := h
    go_wp2
    go_ret
    exact ⟨rfl, bT B1.out hb3⟩
  · obtain ⟨_, hc, rfl⟩ := h
    go_wp2
    go_ret
    exact ⟨rfl, bT B1.out hb3⟩
  · obtain ⟨_, _, hl, P, rfl, hP⟩ := h
    have B3 := Hid.mk' (bT B1.out hb3)
    have HPt := Hid.mk' hP
    clear hb3 hP B1
    generalize hLL : (cmp p).2 = L at *
    clear hLL
    have hL : L.length ≤ 256 := by omega
    by_cases hbig : 65536 < nl
    · have hbig' : (65536 : Int) < (nl : Int) := by omega
      go_wp2
      go_ret
      exact ⟨rfl, B3.out⟩
    · have hbig' : ¬ ((65536 : Int) < (nl : Int)) := by omega
      have hbigd : decide ((65536 : Int) < (nl : Int)) = false := decide_eq_false hbig'
      go_wp2_with fail
      refine (all_any _ w3 P L al nl cl line (by omega) hL HPt (HL.out.keep B3.out)).mono ?_
      rintro e w4 ⟨v, xs, rfl, hAR, hxl, hown, hb4⟩
      obtain ⟨F, hAC, hEnd⟩ := hAR
      have HEnd := Hid.mk' hEnd
      have B4 := Hid.mk' (bT B3.out hb4)
      have HP4 := Hid.mk' (HPt.out.keep hb4)
      have HO4 := Hid.mk' hown
      clear hb4 B3 HPt hown hEnd
      obtain ⟨a5, c5, e5⟩ := own_shape HO4.out
      subst e5
      have HG : Hid (∀ j u, (pvs xs)[j]? = some u → ∃ g5, a5 = some ⟨g5, 0, none⟩ ∧ w4.cell? ⟨g5, j, none⟩ = some u) := by
        intro j u hj
        have : 0 < xs.length := by
          rcases Nat.eq_zero_or_pos xs.length with h | h
          · rw [List.eq_nil_of_length_eq_zero h] at hj; simp [pvs] at hj
          · exact h
        obtain ⟨g5, c6, e6, _, _⟩ := own_some HO4.out this
        injection e6 with e6 _ _
        subst e6
        exact ⟨g5, rfl, row_cell HO4.out hj⟩
      have hxl' : (xs.length : Int) ≤ (nl : Int) + 1 := by omega
      go_wp2_with fail
      go_loopg [9, 10, 11, 12, 13] xs.length (fun m x9 x10 x11 x12 x13 wx => ∃ i f : Nat, x9 = .int .i64 (f : Int) ∧ x10 = .int .i64 (i : Int) ∧ i + m = xs.length ∧ f ≤ nl + 1 ∧ Hid (AC L line f (xs.drop i) F) ∧ Hid (Below w4.heap.size w4 wx))
      case atStart => exact ⟨0, 0, rfl, rfl, by omega, by omega, hAC, Below.refl _ _⟩
      case round =>
        obtain ⟨i, f, rfl, rfl, him, hf, HA, HB⟩ := hrel
        cases gk with
        | zero =>
          have hin : ¬ ((i : Int) < (xs.length : Int)) := by omega
          have hF : f = F := by
            have h := HA.out
            rw [List.drop_eq_nil_of_le (by omega)] at h
            exact h
          subst hF
          have CF := Hid.mk' (find_any _ wr P L al nl cl line (f : Int) hL (HP4.out.keep HB.out) (HL.out.keep (bT B4.out HB.out)))
          go_wp2_with fail
          refine CF.out.mono ?_
          rintro e w6 ⟨a, b, ok, rfl, hfi, hb6⟩
          have hok : ok = false := by
            rcases HEnd.out with h | h
            · rcases hfi with ⟨_, _, _, h9⟩ | ⟨h7, h8, _⟩
              · exact h9
              · omega
            · have hfle : f ≤ line.length ∨ line.length < f := by omega
              rcases hfi with ⟨_, _, _, h9⟩ | ⟨h7, h8, h9⟩
              · exact h9
              · rw [Int.toNat_natCast] at h9
                exact (h9.one h).2.2
          subst hok
          have B6 := Hid.mk' (bT (bT B4.out HB.out) hb6)
          clear hb6 hfi CF
          go_wp2
          go_ret
          exact ⟨rfl, B6.out⟩
        | succ m =>
          have hin : (i : Int) < (xs.length : Int) := by omega
          have hiN : i < xs.length := by omega
          obtain ⟨⟨a, b⟩, hxi⟩ : ∃ x, xs[i]? = some x := ⟨xs[i], List.getElem?_eq_getElem hiN⟩
          have hd : xs.drop i = (a, b) :: xs.drop (i + 1) := by
            rw [List.drop_eq_getElem_cons hiN]
            rw [List.getElem?_eq_getElem hiN] at hxi
            injection hxi with hxi
            rw [hxi]
          have h := HA.out
          rw [hd] at h
          obtain ⟨h1, h2, h3⟩ := h
          have H3 := Hid.mk' h3
          have hle := h2.le
          have hn1 := nx1_le h2
          have CF := Hid.mk' (find_any _ wr P L al nl cl line (f : Int) hL (HP4.out.keep HB.out) (HL.out.keep (bT B4.out HB.out)))
          obtain ⟨p1, p2⟩ := pvs_at xs hxi
          obtain ⟨g5, e6, r1⟩ := HG.out _ _ p1
          subst e6
          obtain ⟨g6, e6, r2⟩ := HG.out _ _ p2
          injection e6 with e6
          injection e6 with e6 _ _
          subst e6
          replace r1 := keepC HB.out r1
          replace r2 := keepC HB.out r2
          have HFI := Hid.mk' (show FI L line (f : Int) a b true from .inr ⟨by omega, by omega, by rw [Int.toNat_natCast]; exact h2⟩)
          clear p1 p2 hd hxi h3 h2 HA
          go_wp2_with fail
          refine CF.out.mono ?_
          rintro e w6 ⟨a', b', ok, rfl, hfi, hb6⟩
          obtain ⟨e1, e2, e3⟩ := hfi.one HFI.out
          subst e1 e2 e3
          have B6 := Hid.mk' (bT HB.out hb6)
          replace r1 := keepC hb6 r1
          replace r2 := keepC hb6 r2
          clear hb6 hfi CF HB
          have q41 := eq41 (a' : Int) (b' : Int)
          have f1' : ¬ ((a' : Int) < (f : Int)) := by omega
          have f1d : decide ((a' : Int) < (f : Int)) = false := decide_eq_false f1'
          have f2' : ¬ ((b' : Int) < (a' : Int)) := by omega
          have f2d : decide ((b' : Int) < (a' : Int)) = false := decide_eq_false f2'
          have f3' : ¬ ((nl : Int) < (b' : Int)) := by omega
          have f3d : decide ((nl : Int) < (b' : Int)) = false := decide_eq_false f3'
          by_cases hab : a' = b'
          · have hab' : ((a' : Int) == (b' : Int)) = true := by simp; omega
            have HNX : Hid (nx1 a' b' = b' + 1) := by unfold Hid nx1; rw [if_pos hab]
            clear hab
            go_wp2
            go_roundg m
            case measure => omega
            case rel => exact ⟨i + 1, b' + 1, by go_num, by go_num, by omega, by omega, by have := H3.out; rw [HNX.out] at this; exact this, B6.out⟩
          · have hab' : ((a' : Int) == (b' : Int)) = false := by simp; omega
            have HNX : Hid (nx1 a' b' = b') := by unfold Hid nx1; rw [if_neg hab]
            go_wp2
            go_roundg m
            case measure => omega
            case rel => exact ⟨i + 1, b', by go_num, by go_num, by omega, by omega, by have := H3.out; rw [HNX.out] at this; exact this, B6.out⟩
end Go.Proofs.Ytimbnbkgdbhaeaa
