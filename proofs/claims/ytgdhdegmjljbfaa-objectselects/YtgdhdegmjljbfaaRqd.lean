/- The reference's quoted. -/
import Derived.Test.YtgdhdegmjljbfaaRqt
import Derived.Test.YtgdhdegmjljbfaaAwk
namespace Go.Proofs.Ytgdhdegmjljbfaa
open Go.RowKit
theorem pr2_get {Q : List Nat} {j : Nat} (h : j < (pr2 Q).length) : ∃ a b, Q[2 * j]? = some a ∧ Q[2 * j + 1]? = some b ∧ (pr2 Q)[j]? = some (a, b) := by
  rw [pr2_len] at h
  have h1 : 2 * j < Q.length := by omega
  have h2 : 2 * j + 1 < Q.length := by omega
  exact ⟨Q[2 * j], Q[2 * j + 1], List.getElem?_eq_getElem h1, List.getElem?_eq_getElem h2, pr2_at j Q _ _ (List.getElem?_eq_getElem h1) (List.getElem?_eq_getElem h2)⟩
theorem find_at {P : List (Nat × Nat)} {f : Nat × Nat → Bool} {j : Nat} {x : Nat × Nat} (h : P[j]? = some x) (hx : f x = true) (hl : ∀ y ∈ P.take j, f y = false) : P.find? f = some x := by
  obtain ⟨h1, h2⟩ := List.getElem?_eq_some_iff.1 h
  have e : P = P.take j ++ x :: P.drop (j + 1) := by
    rw [← h2, List.getElem_cons_drop h1, List.take_append_drop]
  rw [e, List.find?_append, List.find?_eq_none.2 (fun y hy => by rw [hl y hy]; simp)]
  simp [hx]
set_option maxRecDepth 8000 in
set_option maxHeartbeats 16000000 in
theorem rquoted_any (ao : Option Addr) (n c k : Nat) (q : Int) (a : Bool) (l : List UInt8) (w : World) (hn : n ≤ 4398046511103) (hk : k ≤ n) (HT : Hid (Tx w ao n c l)) :
    Calls Try.prog 24 #[.slice ao n c, .int .i64 (k : Int), .int .i64 (bg l k : Int), .int .i64 (en l (bg l k) : Int), .int .u8 q, .bool a] w fun e w' => e = ra (qx l q k a) ∧ Below w.heap.size w w' := by
  have hlen := HT.out.len
  have hb := bg_le l k
  have he := en_le (t := l) (s := bg l k) (by omega)
  have heg := en_ge l (bg l k)
  have hpe := place_en (t := l) (i := k) (by omega)
  have CQ := Hid.mk' (fun W (hb : Below w.heap.size w W) => quotes_any ao n c k q l W hn hk (HT.out.keep hb))
  have HM : Hid (lm l k = en l (bg l k) - bg l k) := rfl
  have HLA : Hid (∀ x, x < lm l k → at8 (lq l k) x = at8 l (bg l k + x)) := fun x hx => lq_at hx
  have HQX : Hid (qx l q k a = (qa (lq l k) q (k - bg l k) (lm l k) a).map fun x => (bg l k + x.1, bg l k + x.2)) := rfl
  have HQS := Hid.mk' (fun x (hx : x ∈ qs (lq l k) q (lm l k)) => (qs_mem hx).1)
  generalize qx l q k a = r at *
  generalize lq l k = L at *
  generalize lm l k = m at *
  generalize en l (bg l k) = e at *
  generalize bg l k = s at *
  have hmn : m ≤ n := by have := HM.out; omega
  unfold qa at HQX
  have HQP : Hid (qp L q (k - s) m = (pr2 (qs L q m)).find? fun x => decide (k - s ≤ x.2)) := rfl
  have HQL := Hid.mk' (qs_len L q m)
  have HUP := Hid.mk' (qs_up L q m)
  generalize qp L q (k - s) m = qr at *
  obtain ⟨Q, HQQ⟩ : ∃ Q, Hid (qs L q m = Q) := ⟨_, rfl⟩
  rw [HQQ.out] at CQ HQP HQL HQS HUP
  have hQn : Q.length ≤ n := by have := HQL.out; omega
  go_enter Try.func24, Try.ntmps24
  go_wp2_with fail
  refine (CQ.out _ (bAlloc (Below.refl _ _) _)).mono ?_
  rintro e' w3 ⟨v, rfl, ho3, hb3⟩
  obtain ⟨av, cv, hv⟩ := own_shape ho3
  subst hv
  have KB := Hid.mk' ((Blk.new w 48 #[.int .i64 0, .int .i64 0, .bool false]).keep hb3)
  have O3 := Hid.mk' ho3
  have B3 := Hid.mk' (bT (bAlloc (Below.refl _ _) _) hb3)
  have k0 : w3.cell? ⟨w.heap.size, 0, none⟩ = some (.int .i64 0) := KB.out.cell (j := 0) rfl
  have k1' : w3.cell? ⟨w.heap.size, 1, none⟩ = some (.int .i64 0) := KB.out.cell (j := 1) rfl
  have k2' : w3.cell? ⟨w.heap.size, 2, none⟩ = some (.bool false) := KB.out.cell (j := 2) rfl
  have f9 := KB.out.frozen
  clear hb3 ho3
  go_wp2_with fail
  go_loopg [15] (pr2 Q).length (fun g x15 wx => ∃ j I : Nat, x15 = .int .i64 (I : Int) ∧ j + g = (pr2 Q).length ∧ Hid (I = 2 * j) ∧ Hid (∀ y ∈ (pr2 Q).take j, y.2 < k - s) ∧ w3 = wx)
  case atStart => exact ⟨0, 0, rfl, by omega, rfl, by simp [Hid], rfl⟩
  case round =>
    obtain ⟨j, I, rfl, hj, HI, HLO, rfl⟩ := hrel
    have HPL := Hid.mk' (pr2_len Q)
    have hIn : I ≤ n := by have := HI.out; have := HPL.out; omega
    obtain ⟨J, HJ⟩ : ∃ J, Hid (I + 1 = J) := ⟨_, rfl⟩
    have hwJ : IntKind.i64.wrap ((I : Int) + 1) = (J : Int) := by have := HJ.out; rw [IntKind.wrap_i64]; omega
    cases gk with
    | zero =>
      have h1 : ¬ ((J : Int) < (Q.length : Int)) := by have := HJ.out; have := HI.out; have := HPL.out; omega
      have HN : Hid (r = none) := by
        have e1 : qr = none := by
          rw [HQP.out, List.find?_eq_none]
          intro y hy
          have := HLO.out y (by rw [List.take_of_length_le (by omega)]; exact hy)
          simp; omega
        unfold Hid; rw [HQX.out, e1]; rfl
      go_wp2
      all_goals exact bodyPost_ret (v := .tuple #[.agg #[.int .i64 0, .int .i64 0, .bool false], .int .i64 130]) (by simp [results, Try.results24, go_sem, k0, k1', k2']) rfl ⟨by rw [HN.out]; rfl, bset (bset (bset B3.out _ (Nat.le_refl _)) _ (Nat.le_refl _)) _ (Nat.le_refl _)⟩
    | succ g =>
      obtain ⟨a9, b9, p1, p2, p3⟩ := pr2_get (Q := Q) (j := j) (by omega)
      have ha9 := HQS.out a9 (List.mem_of_getElem? p1)
      have hb9 := HQS.out b9 (List.mem_of_getElem? p2)
      have hab := (pr2_mem Q (a9, b9) HUP.out (List.mem_of_getElem? p3)).2.2
      simp only at hab
      rw [← HI.out] at p1 p2
      rw [HJ.out] at p2
      have h1 : (J : Int) < (Q.length : Int) := by have := HJ.out; have := HI.out; have := HPL.out; omega
      have hI0 : (0 : Int) ≤ (I : Int) := by omega
      have hI1 : (I : Int) < (Q.length : Int) := by have := HJ.out; omega
      have hJ0 : (0 : Int) ≤ (J : Int) := by omega
      obtain ⟨gv, cv', ev, -, -⟩ := own_some O3.out (by have := HJ.out; omega)
      injection ev with ev _ ev2
      subst ev ev2
      have cA := row_cell O3.out (qv_at (s := s) p1)
      have cB := row_cell O3.out (qv_at (s := s) p2)
      obtain ⟨A, HA⟩ : ∃ A, Hid (s + a9 = A) := ⟨_, rfl⟩
      obtain ⟨B, HB⟩ : ∃ B, Hid (s + b9 = B) := ⟨_, rfl⟩
      rw [HA.out] at cA
      rw [HB.out] at cB
      have hAn : A < n := by have := HA.out; have := HM.out; omega
      have hBn : B < e := by have := HB.out; have := HM.out; omega
      have hgne : ¬ gv = w.heap.size := by
        have h9 := (O3.out.lt gv rfl).1
        simp at h9
        omega
      have hgne' : ¬ w.heap.size = gv := fun h => hgne h.symm
      have hgb : gv < w3.heap.size := lt_of_cell cA
      by_cases hlt : B < k
      · have hlt1 : (B : Int) < (k : Int) := by omega
        have hw2 : IntKind.i64.wrap ((I : Int) + 2) = ((I + 2 : Nat) : Int) := by rw [IntKind.wrap_i64]; omega
        have HLO2 : Hid (∀ y ∈ (pr2 Q).take (j + 1), y.2 < k - s) := by
          intro y hy
          obtain ⟨h8, h9⟩ := List.getElem?_eq_some_iff.1 p3
          rw [List.take_succ_eq_append_getElem h8, h9] at hy
          rcases List.mem_append.1 hy with hy | hy
          · exact HLO.out y hy
          · have : y = (a9, b9) := by simpa using hy
            subst this
            have := HB.out
            simp only
            omega
        clear p1 p2 p3
        go_wp2
        go_roundg g
        case measure => omega
        case rel => exact ⟨j + 1, I + 2, rfl, by omega, by have := HI.out; unfold Hid; omega, HLO2.out, rfl⟩
      · have hlt1 : ¬ ((B : Int) < (k : Int)) := by omega
        have HF : Hid (qr = some (a9, b9)) := by
          unfold Hid
          rw [HQP.out]
          refine find_at p3 (by simp only; exact decide_eq_true (by have := HB.out; omega)) (fun y hy => ?_)
          exact decide_eq_false (by have := HLO.out y hy; omega)
        rw [HF.out] at HQX
        have e1 : IntKind.i64.wrap ((A : Int) + 1) = ((A + 1 : Nat) : Int) := by rw [IntKind.wrap_i64]; omega
        obtain ⟨B1, HB1⟩ : ∃ B1, Hid (B + 1 = B1) := ⟨_, rfl⟩
        have e2 : IntKind.i64.wrap ((B : Int) + 1) = (B1 : Int) := by have := HB1.out; rw [IntKind.wrap_i64]; omega
        clear p1 p2 p3 HLO HQP HF
        cases a with
        | false =>
          have HN : Hid (r = some (A + 1, B)) := by
            unfold Hid; rw [HQX.out]; simp only [Option.map_some, Bool.false_eq_true, if_false]
            rw [← HA.out, ← HB.out]; rfl
          go_wp2_with fail
          all_goals go_region
          all_goals go_wp2
          all_goals exact bodyPost_ret (v := .tuple #[.agg #[.int .i64 ((A + 1 : Nat) : Int), .int .i64 (B : Int), .bool false], .int .i64 0]) (by simp [results, Try.results24, go_sem, k0, k1', k2']) rfl ⟨by rw [HN.out]; rfl, bset (bset (bset B3.out.drew _ (Nat.le_refl _)) _ (Nat.le_refl _)) _ (Nat.le_refl _)⟩
        | true =>
          obtain ⟨Fr, HFr⟩ : ∃ Fr, Hid (fw L (m - (b9 + 1)) (b9 + 1) = Fr) := ⟨_, rfl⟩
          have hFrm : Fr ≤ m := by have := fw_ge L (m - (b9 + 1)) (b9 + 1); rw [HFr.out] at this; omega
          obtain ⟨Gr, HGr⟩ : ∃ Gr, Hid ((if Fr = b9 + 1 then bw L a9 else a9) = Gr) := ⟨_, rfl⟩
          have HN : Hid (r = some (s + Gr, s + Fr)) := by
            unfold Hid; rw [HQX.out]; simp only [Option.map_some, if_true]
            unfold wb
            simp only
            rw [HFr.out, HGr.out]
          clear HQX
          go_wp2_with fail
          go_quiet (fail)
          have D4 := Hid.mk' (below_drew9 w3 nq)
          have B4 := Hid.mk' (bT B3.out D4.out)
          have KB4 := Hid.mk' (KB.out.keep D4.out)
          have cB4 := keepC D4.out cB
          generalize w3.drewN nq = w4 at *
          clear k0 k1' k2' f9 cA cB KB O3 B3 D4 hgb
          have k0 : w4.cell? ⟨w.heap.size, 0, none⟩ = some (.int .i64 0) := KB4.out.cell (j := 0) rfl
          have k1' : w4.cell? ⟨w.heap.size, 1, none⟩ = some (.int .i64 0) := KB4.out.cell (j := 1) rfl
          have k2' : w4.cell? ⟨w.heap.size, 2, none⟩ = some (.bool false) := KB4.out.cell (j := 2) rfl
          have f9 := KB4.out.frozen
          go_wp2_with fail
          go_loopg [17] (m - (b9 + 1)) (fun g x17 wx => ∃ t X : Nat, x17 = .int .i64 (X : Int) ∧ t + g = m ∧ Hid (X = s + t) ∧ Hid (fw L g t = Fr) ∧ w4 = wx)
          case atStart => exact ⟨b9 + 1, B1, rfl, by omega, by have := HB1.out; have := HB.out; unfold Hid; omega, HFr.out, rfl⟩
          case round =>
            obtain ⟨t, X, rfl, ht, HX, HFW, rfl⟩ := hrel
            have hXe : X ≤ e := by have := HX.out; have := HM.out; omega
            have hwX : IntKind.i64.wrap ((X : Int) + 1) = ((X + 1 : Nat) : Int) := by rw [IntKind.wrap_i64]; omega
            have hX0 : (0 : Int) ≤ (X : Int) := by omega
            cases gk with
            | zero =>
              obtain rfl : t = Fr := HFW.out
              have h8 : ¬ ((X : Int) < (e : Int)) := by have := HX.out; have := HM.out; omega
              by_cases hit : t = b9 + 1
              · have hte : ((X : Int) == (B1 : Int)) = true := by have := HX.out; have := HB1.out; have := HB.out; simp; omega
                have HG0 : Hid (bw L a9 = Gr) := by have := HGr.out; rw [if_pos hit] at this; exact this
                clear hit
                go_wp2_with fail
                go_loopg [16] a9 (fun g x16 wx => ∃ Y : Nat, x16 = .int .i64 (Y : Int) ∧ g ≤ m ∧ Hid (Y = s + g) ∧ Hid (bw L g = Gr) ∧ w4 = wx)
                case atStart => exact ⟨A, rfl, by omega, HA.out.symm, HG0.out, rfl⟩
                case round =>
                  obtain ⟨Y, rfl, hgm, HY, HBW, rfl⟩ := hrel
                  cases gk with
                  | zero =>
                    have hj0 : ¬ ((s : Int) < (Y : Int)) := by have := HY.out; omega
                    have HN2 : Hid (r = some (Y, X)) := by
                      have e8 : Gr = 0 := HBW.out.symm
                      unfold Hid; rw [HN.out, e8, HX.out, HY.out]
                    go_wp2
                    all_goals exact bodyPost_ret (v := .tuple #[.agg #[.int .i64 (Y : Int), .int .i64 (X : Int), .bool false], .int .i64 0]) (by simp [results, Try.results24, go_sem, k0, k1', k2']) rfl ⟨by rw [HN2.out]; rfl, bset (bset (bset B4.out _ (Nat.le_refl _)) _ (Nat.le_refl _)) _ (Nat.le_refl _)⟩
                  | succ y =>
                    have hj0 : (s : Int) < (Y : Int) := by have := HY.out; omega
                    obtain ⟨D, HD⟩ : ∃ D, Hid (Y - 1 = D) := ⟨_, rfl⟩
                    have hYn : Y ≤ n := by have := HY.out; have := HM.out; omega
                    have hj1 : IntKind.i64.wrap ((Y : Int) - 1) = (D : Int) := by have := HD.out; rw [IntKind.wrap_i64]; omega
                    have hj2 : (0 : Int) ≤ (D : Int) := by omega
                    have hj3 : (D : Int) < (n : Int) := by have := HD.out; omega
                    obtain ⟨gt2, ot2, et2, hct2⟩ := (HT.out.keep B4.out).at (by omega)
                    first | subst et2 | cases et2
                    have cD := hct2 D (by have := HD.out; omega)
                    have hat : at8 l D = at8 L y := by
                      have h8 := HLA.out y (by omega)
                      have h7 := HY.out
                      have h6 := HD.out
                      rw [h8, show s + y = D by omega]
                    rw [hat] at cD
                    have C2 := Hid.mk' (blank_any (at8 L y) w4)
                    clear hct2 hat
                    cases hb8 : bl (at8 L y) with
                    | true =>
                      rw [hb8] at C2
                      have HN3 : Hid (bw L y = Gr) := by have := HBW.out; unfold bw at this; rw [if_pos hb8] at this; exact this
                      clear hb8
                      go_wp2_with (go_at_call 35; refine C2.out.mono ?_; rintro e w' ⟨rfl, hw⟩; have hq := hw.symm; subst hq; clear hw)
                      go_roundg y
                      case measure => omega
                      case rel => exact ⟨D, rfl, by omega, by have := HD.out; have := HY.out; unfold Hid; omega, HN3.out, rfl⟩
                    | false =>
                      rw [hb8] at C2
                      have HN2 : Hid (r = some (Y, X)) := by
                        have := HBW.out
                        unfold bw at this
                        rw [hb8, if_neg (by simp)] at this
                        unfold Hid; rw [HN.out, ← this, HX.out, HY.out]
                      clear hb8
                      go_wp2_with (go_at_call 35; refine C2.out.mono ?_; rintro e w' ⟨rfl, hw⟩; have hq := hw.symm; subst hq; clear hw)
                      all_goals exact bodyPost_ret (v := .tuple #[.agg #[.int .i64 (Y : Int), .int .i64 (X : Int), .bool false], .int .i64 0]) (by simp [results, Try.results24, go_sem, k0, k1', k2']) rfl ⟨by rw [HN2.out]; rfl, bset (bset (bset B4.out _ (Nat.le_refl _)) _ (Nat.le_refl _)) _ (Nat.le_refl _)⟩
              · have hte : ((X : Int) == (B1 : Int)) = false := by
                  have h7 := HX.out
                  have h6 := HB1.out
                  have h5 := HB.out
                  rw [beq_eq_false_iff_ne]
                  omega
                have HN2 : Hid (r = some (A, X)) := by
                  have h8 := HGr.out
                  rw [if_neg hit] at h8
                  unfold Hid; rw [HN.out, ← h8, HA.out, HX.out]
                clear hit
                go_wp2_with fail
                all_goals exact bodyPost_ret (v := .tuple #[.agg #[.int .i64 (A : Int), .int .i64 (X : Int), .bool false], .int .i64 0]) (by simp [results, Try.results24, go_sem, k0, k1', k2']) rfl ⟨by rw [HN2.out]; rfl, bset (bset (bset B4.out _ (Nat.le_refl _)) _ (Nat.le_refl _)) _ (Nat.le_refl _)⟩
            | succ g9 =>
              have htm : t < m := by omega
              have h8 : (X : Int) < (e : Int) := by have := HX.out; have := HM.out; omega
              have h9 : (X : Int) < (n : Int) := by omega
              obtain ⟨gt, ot, et, hct⟩ := (HT.out.keep B4.out).at (by omega)
              first | subst et | cases et
              have cX := hct X (by omega)
              have hat : at8 l X = at8 L t := by rw [HLA.out t htm, HX.out]
              rw [hat] at cX
              have C1 := Hid.mk' (blank_any (at8 L t) w4)
              clear hct hat
              cases hb8 : bl (at8 L t) with
              | true =>
                rw [hb8] at C1
                have HN3 : Hid (fw L g9 (t + 1) = Fr) := by have := HFW.out; unfold fw at this; rw [if_pos hb8] at this; exact this
                clear hb8
                go_wp2_with (go_at_call 35; refine C1.out.mono ?_; rintro e w' ⟨rfl, hw⟩; have hq := hw.symm; subst hq; clear hw)
                go_roundg g9
                case measure => omega
                case rel => exact ⟨t + 1, X + 1, rfl, by omega, by have := HX.out; unfold Hid; omega, HN3.out, rfl⟩
              | false =>
                rw [hb8] at C1
                obtain rfl : t = Fr := by have := HFW.out; unfold fw at this; rw [hb8, if_neg (by simp)] at this; exact this
                clear hb8
                by_cases hit : t = b9 + 1
                · have hte : ((X : Int) == (B1 : Int)) = true := by have := HX.out; have := HB1.out; have := HB.out; simp; omega
                  have HG0 : Hid (bw L a9 = Gr) := by have := HGr.out; rw [if_pos hit] at this; exact this
                  clear hit
                  go_wp2_with (go_at_call 35; refine C1.out.mono ?_; rintro e w' ⟨rfl, hw⟩; have hq := hw.symm; subst hq; clear hw)
                  go_loopg [16] a9 (fun g x16 wx => ∃ Y : Nat, x16 = .int .i64 (Y : Int) ∧ g ≤ m ∧ Hid (Y = s + g) ∧ Hid (bw L g = Gr) ∧ w4 = wx)
                  case atStart => exact ⟨A, rfl, by omega, HA.out.symm, HG0.out, rfl⟩
                  case round =>
                    obtain ⟨Y, rfl, hgm, HY, HBW, rfl⟩ := hrel
                    cases gk with
                    | zero =>
                      have hj0 : ¬ ((s : Int) < (Y : Int)) := by have := HY.out; omega
                      have HN2 : Hid (r = some (Y, X)) := by
                        have e8 : Gr = 0 := HBW.out.symm
                        unfold Hid; rw [HN.out, e8, HX.out, HY.out]
                      go_wp2
                      all_goals exact bodyPost_ret (v := .tuple #[.agg #[.int .i64 (Y : Int), .int .i64 (X : Int), .bool false], .int .i64 0]) (by simp [results, Try.results24, go_sem, k0, k1', k2']) rfl ⟨by rw [HN2.out]; rfl, bset (bset (bset B4.out _ (Nat.le_refl _)) _ (Nat.le_refl _)) _ (Nat.le_refl _)⟩
                    | succ y =>
                      have hj0 : (s : Int) < (Y : Int) := by have := HY.out; omega
                      obtain ⟨D, HD⟩ : ∃ D, Hid (Y - 1 = D) := ⟨_, rfl⟩
                      have hYn : Y ≤ n := by have := HY.out; have := HM.out; omega
                      have hj1 : IntKind.i64.wrap ((Y : Int) - 1) = (D : Int) := by have := HD.out; rw [IntKind.wrap_i64]; omega
                      have hj2 : (0 : Int) ≤ (D : Int) := by omega
                      have hj3 : (D : Int) < (n : Int) := by have := HD.out; omega
                      obtain ⟨gt2, ot2, et2, hct2⟩ := (HT.out.keep B4.out).at (by omega)
                      first | subst et2 | cases et2
                      have cD := hct2 D (by have := HD.out; omega)
                      have hat : at8 l D = at8 L y := by
                        have h8 := HLA.out y (by omega)
                        have h7 := HY.out
                        have h6 := HD.out
                        rw [h8, show s + y = D by omega]
                      rw [hat] at cD
                      have C2 := Hid.mk' (blank_any (at8 L y) w4)
                      clear hct2 hat
                      cases hb8 : bl (at8 L y) with
                      | true =>
                        rw [hb8] at C2
                        have HN3 : Hid (bw L y = Gr) := by have := HBW.out; unfold bw at this; rw [if_pos hb8] at this; exact this
                        clear hb8
                        go_wp2_with (go_at_call 35; refine C2.out.mono ?_; rintro e w' ⟨rfl, hw⟩; have hq := hw.symm; subst hq; clear hw)
                        go_roundg y
                        case measure => omega
                        case rel => exact ⟨D, rfl, by omega, by have := HD.out; have := HY.out; unfold Hid; omega, HN3.out, rfl⟩
                      | false =>
                        rw [hb8] at C2
                        have HN2 : Hid (r = some (Y, X)) := by
                          have := HBW.out
                          unfold bw at this
                          rw [hb8, if_neg (by simp)] at this
                          unfold Hid; rw [HN.out, ← this, HX.out, HY.out]
                        clear hb8
                        go_wp2_with (go_at_call 35; refine C2.out.mono ?_; rintro e w' ⟨rfl, hw⟩; have hq := hw.symm; subst hq; clear hw)
                        all_goals exact bodyPost_ret (v := .tuple #[.agg #[.int .i64 (Y : Int), .int .i64 (X : Int), .bool false], .int .i64 0]) (by simp [results, Try.results24, go_sem, k0, k1', k2']) rfl ⟨by rw [HN2.out]; rfl, bset (bset (bset B4.out _ (Nat.le_refl _)) _ (Nat.le_refl _)) _ (Nat.le_refl _)⟩
                · have hte : ((X : Int) == (B1 : Int)) = false := by
                    have h7 := HX.out
                    have h6 := HB1.out
                    have h5 := HB.out
                    rw [beq_eq_false_iff_ne]
                    omega
                  have HN2 : Hid (r = some (A, X)) := by
                    have h8 := HGr.out
                    rw [if_neg hit] at h8
                    unfold Hid; rw [HN.out, ← h8, HA.out, HX.out]
                  clear hit
                  go_wp2_with (go_at_call 35; refine C1.out.mono ?_; rintro e w' ⟨rfl, hw⟩; have hq := hw.symm; subst hq; clear hw)
                  all_goals exact bodyPost_ret (v := .tuple #[.agg #[.int .i64 (A : Int), .int .i64 (X : Int), .bool false], .int .i64 0]) (by simp [results, Try.results24, go_sem, k0, k1', k2']) rfl ⟨by rw [HN2.out]; rfl, bset (bset (bset B4.out _ (Nat.le_refl _)) _ (Nat.le_refl _)) _ (Nat.le_refl _)⟩
end Go.Proofs.Ytgdhdegmjljbfaa
