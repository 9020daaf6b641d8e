/- BlockPairs walked: from a bracket to its partner and back; between them as many open as close. -/
import Derived.Test.YtkapddemgodamaaDoorAwk
import Derived.Deep.MidRow
namespace Go.Proofs.YtkapddemgodamaaDoor
open Go.RowKit

theorem pt_not10 {l : List UInt8} {q : Nat} (h : pk (bi l q) = true) : bi l q ≠ 10 := by
  rcases pk_cases h with h | h | h | h | h | h <;> rw [h] <;> decide
theorem fq_here {l : List UInt8} {d q : Nat} (h : pk (bi l q) = true) : fq l (d + 1) q = some q := by
  unfold fq; rw [if_neg (pt_not10 h), if_pos h]
theorem xa_back {l : List UInt8} {q z : Nat} (hz : z < l.length) (h : pk (bi l z) = true) (hp : pt l z = some q) : xa l z = some q := by
  unfold xa
  obtain ⟨d, hd⟩ : ∃ d, l.length - z = d + 1 := ⟨l.length - z - 1, by omega⟩
  rw [hd, fq_here h]; exact hp
/-- the array of the sorts, behind d bytes from a on -/
def arr (l : List UInt8) (a d : Nat) : Array Value := ((List.range 256).map fun (x : Nat) => Value.int .i64 (oc l (x : Int) a d)).toArray
theorem arr_at (l : List UInt8) (a d x : Nat) (h : x < 256) : (arr l a d)[x]? = some (.int .i64 (oc l (x : Int) a d)) := by
  simp [arr, h]
theorem arr_size (l : List UInt8) (a d : Nat) : (arr l a d).size = 256 := by simp [arr]
theorem arr_zero (l : List UInt8) (a : Nat) : arr l a 0 = Array.replicate 256 (.int .i64 0) := by
  apply Array.ext_getElem?
  intro i
  by_cases h : i < 256
  · rw [arr_at l a 0 i h]; simp [oc, h]
  · rw [Array.getElem?_eq_none (by rw [arr_size]; omega), Array.getElem?_eq_none (by simp; omega)]
theorem arr_skip {l : List UInt8} {a d : Nat} (h : pk (bi l (a + d)) = false) : arr l a (d + 1) = arr l a d := by
  apply Array.ext_getElem?
  intro i
  by_cases hi : i < 256
  · rw [arr_at _ _ _ _ hi, arr_at _ _ _ _ hi]; simp [oc, h]
  · rw [Array.getElem?_eq_none (by rw [arr_size]; omega), Array.getElem?_eq_none (by rw [arr_size]; omega)]
theorem arr_set {l : List UInt8} {a d x : Nat} {v : Int} (hx : x < 256) (h1 : oc l (x : Int) a (d + 1) = v) (h2 : ∀ y : Nat, y ≠ x → oc l (y : Int) a (d + 1) = oc l (y : Int) a d) : (arr l a d).setIfInBounds x (.int .i64 v) = arr l a (d + 1) := by
  apply Array.ext_getElem?
  intro i
  by_cases hi : i < 256
  · rw [arr_at _ _ _ _ hi, Array.getElem?_setIfInBounds]
    by_cases hix : x = i
    · subst hix; rw [if_pos rfl, if_pos (by rw [arr_size]; exact hx), h1]
    · rw [if_neg hix, arr_at _ _ _ _ hi, h2 i (by omega)]
  · rw [Array.getElem?_eq_none (by rw [Array.size_setIfInBounds, arr_size]; omega), Array.getElem?_eq_none (by rw [arr_size]; omega)]
theorem oc_succ (l : List UInt8) (x : Int) (a d : Nat) : oc l x a (d + 1) = oc l x a d + (if pk (bi l (a + d)) = true ∧ pn (bi l (a + d)) = true ∧ bi l (a + d) = x then 1 else 0) - (if pk (bi l (a + d)) = true ∧ pn (bi l (a + d)) = false ∧ po (bi l (a + d)) = x then 1 else 0) := rfl
theorem arr_open {l : List UInt8} {a d x : Nat} (hx : x < 256) (hb : bi l (a + d) = x) (hk : pk (bi l (a + d)) = true) (hn : pn (bi l (a + d)) = true) : (arr l a d).setIfInBounds x (.int .i64 (oc l (x : Int) a d + 1)) = arr l a (d + 1) := by
  rw [hb] at hk hn
  refine arr_set hx ?_ fun y hy => ?_
  · rw [oc_succ]; simp [hk, hn, hb]
  · have : ¬ (x : Int) = (y : Int) := by omega
    rw [oc_succ]; simp [hk, hn, hb, this]
theorem arr_shut {l : List UInt8} {a d x : Nat} (hx : x < 256) (hb : po (bi l (a + d)) = x) (hk : pk (bi l (a + d)) = true) (hn : pn (bi l (a + d)) = false) : (arr l a d).setIfInBounds x (.int .i64 (oc l (x : Int) a d - 1)) = arr l a (d + 1) := by
  refine arr_set hx ?_ fun y hy => ?_
  · rw [oc_succ]; simp [hk, hn, hb]
  · have : ¬ (x : Int) = (y : Int) := by omega
    rw [oc_succ]; simp [hk, hn, hb, this]
theorem arr_end {l : List UInt8} {a d : Nat} (h : ∀ x : Int, oc l x a d = 0) : arr l a d = Array.replicate 256 (.int .i64 0) := by
  apply Array.ext_getElem?
  intro i
  by_cases hi : i < 256
  · rw [arr_at l a d i hi, h]; simp [hi]
  · rw [Array.getElem?_eq_none (by rw [arr_size]; omega), Array.getElem?_eq_none (by simp; omega)]
theorem info42 : (Tryd.prog.info? 42).map (fun i => (i.zero, i.size)) = some (some (.agg (Array.replicate 256 (.int .i64 0))), 256) := by kernel_rfl
theorem same42 (w : World) : (binOp BinOp.eql 42 (.agg (Array.replicate 256 (.int .i64 0))) (.agg (Array.replicate 256 (.int .i64 0)))).run Tryd.prog w = .ok (.bool true) w := by
  kernel_rfl

def s37 : ByteArray := { data := #[37] }
theorem mv37 {l : List UInt8} {p : Nat} (hp : p ≤ l.length) : mv l p 1 { data := #[37] } = mvE p 2 (xa l p) := by
  rw [show (1 : Int) = ((1 : Nat) : Int) by rfl, mv_ok kn37 hp (by decide) (by decide) (by decide)]; rfl
set_option maxRecDepth 8000 in
set_option maxHeartbeats 4000000 in
theorem pairs_walk (ao : Option Addr) (n c : Nat) (i : Int) (l : List UInt8) (w : World) (h1 : -9223372036854775808 ≤ i) (h2 : i ≤ 9223372036854775807) (hn : n < 140737488355328) (HG : Hid (Gl w)) (HT : Hid (Tx w ao n c l)) :
    Calls Tryd.prog 5 #[.slice ao n c, .int .i64 i] w fun e w' => e = .returned (.bool true) ∧ Below w.heap.size w w' := by
  have hl := HT.out.len
  have hcap := HT.out.cap
  have AW := Hid.mk' (awake_any w HG)
  have hw0 : IntKind.i64.wrap ((n : Int) + 1) = (n : Int) + 1 := by rw [IntKind.wrap_i64]; omega
  have PL := Hid.mk' (fun W => place_any i (n + 1) W h1 h2 (by omega) (by omega))
  rw [show ((n + 1 : Nat) : Int) = (n : Int) + 1 by omega] at PL
  go_enter Tryd.func5, Tryd.ntmps5
  go_wp2_with fail
  refine AW.out.mono ?_
  rintro e w1 ⟨rfl, hb1⟩
  have B1 := Hid.mk' hb1
  clear hb1 AW
  go_wp2_with fail
  refine (PL.out w1).mono ?_
  rintro e w' ⟨⟨p, hp, rfl⟩, hq⟩
  have hq2 := hq.symm; subst hq2; clear hq
  go_wp2_with fail
  refine (move_any _ _ _ _ _ _ l _ (Hid.mk' (snts_no (by rw [kn37]; decide))) (Hid.mk' (HT.out.keep B1.out))).mono ?_
  rintro e w2 ⟨rfl, hb2⟩
  rw [mv37 (by omega)]
  have B2 := Hid.mk' (bT B1.out hb2)
  clear hb2 B1
  cases hx : xa l p with
  | none =>
    unfold mvE
    clear hx
    dsimp only
    go_wp2
    go_ret
    exact ⟨rfl, bAlloc B2.out _⟩
  | some z =>
    unfold mvE
    dsimp only
    obtain ⟨q, hfq, hpt⟩ : ∃ q, fq l (n - p) p = some q ∧ pt l q = some z := by
      unfold xa at hx
      rw [hl] at hx
      cases hf : fq l (n - p) p with
      | none => rw [hf] at hx; cases hx
      | some q => rw [hf] at hx; exact ⟨q, rfl, hx⟩
    obtain ⟨hq1, hq2, hpk, hno⟩ := fq_some hfq
    obtain ⟨hzl, hzk, hzb, hzp, hzu, hzd, F, hF⟩ := pt_back (by omega) hpk hpt
    rw [hl] at hzl
    have HXB := Hid.mk' (xa_back (by omega) hzk hzp)
    have HPK := Hid.mk' hpk
    have HNO := Hid.mk' hno
    have HZB := Hid.mk' hzb
    have HZU := Hid.mk' hzu
    have HZD := Hid.mk' hzd
    have HOC := Hid.mk' (oc_zero hF)
    clear hx hfq hpt hzk hzp hpk hno hzb hzu hzd hF
    have hz0 : (0 : Int) ≤ (z : Int) := by omega
    have hz1 : (z : Int) < (n : Int) := by omega
    have hz2 : decide (n ≤ z) = false := by simp; omega
    have hz3 : decide ((z : Int) < 0) = false := by simp
    go_wp2
    have TB := Hid.mk' (Blk.new w2 30 #[.int .i64 p, .int .i64 z, .int .i64 2])
    have B3 := Hid.mk' (bAlloc B2.out (.cells #[.int .i64 p, .int .i64 z, .int .i64 2] 30))
    generalize w2.alloc (.cells #[.int .i64 p, .int .i64 z, .int .i64 2] 30) = W3 at *
    generalize w2.heap.size = G1 at *
    clear B2
    have T3 := Hid.mk' (HT.out.keep B3.out)
    obtain ⟨gg, o, rfl, hcl⟩ := HT.out.at (by omega)
    clear hcl
    have CP : Hid (∀ j, j < n → W3.cell? ⟨gg, o + j, none⟩ = some (.int .u8 (bi l j))) := fun j hj => by have := T3.out.cells _ rfl j hj; rwa [add_none] at this
    go_loopg [8] (q - p) (fun g x8 wx => ∃ j : Nat, x8 = .int .i64 j ∧ j + g = q ∧ p ≤ j ∧ W3 = wx)
    case atStart => exact ⟨p, rfl, by omega, Nat.le_refl _, rfl⟩
    case round =>
      obtain ⟨j, rfl, hj, hpj, rfl⟩ := hrel
      have hj0 : (0 : Int) ≤ (j : Int) := by omega
      have hj1 : (j : Int) < (n : Int) := by omega
      have hjb : (j : Int) ≤ 140737488355328 := by omega
      have cj := CP.out j (by omega)
      have C1 := Hid.mk' (partner_any (bi l j) W3)
      unfold ptr at C1
      cases gk with
      | succ g =>
        obtain ⟨hb10, hbk⟩ := HNO.out j hpj (by omega)
        have hne : (bi l j != 10) = true := by simp [hb10]
        rw [hbk] at C1
        clear hb10 hbk
        generalize po (bi l j) = yo at *
        generalize pn (bi l j) = yn at *
        generalize bi l j = yb at *
        go_wp2_with (go_at_call 14; refine C1.out.mono ?_; rintro e w' ⟨rfl, hw⟩; have hq := hw.symm; subst hq; clear hw)
        go_roundg g
        case measure => omega
        case rel => exact ⟨j + 1, by go_num, by omega, by omega, rfl⟩
      | zero =>
        obtain rfl : j = q := by omega
        have hne : (bi l j != 10) = true := by simp [pt_not10 HPK.out]
        have hne2 : (bi l j == 10) = false := by simp [pt_not10 HPK.out]
        have hjn : ((j : Int) == (n : Int)) = false := by simp; omega
        rw [HPK.out] at C1
        have cz := CP.out z (by omega)
        have d1 : W3.cell? ⟨G1, 1, none⟩ = some (.int .i64 z) := TB.out.cell rfl
        have HZ := Hid.mk' (congrArg (fun x => x) HZB.out)
        rw [HZB.out] at cz
        have MV := Hid.mk' (move_any (some ⟨gg, o, none⟩) n c z 1 { data := #[37] } l W3 (Hid.mk' (snts_no (by rw [kn37]; decide))) T3)
        rw [mv37 (by omega), HXB.out] at MV
        unfold mvE at MV
        obtain ⟨Z, hZ⟩ : ∃ Z, Z = Array.replicate 256 (Value.int .i64 0) := ⟨_, rfl⟩
        have hv42 := (zero_of_info info42).1
        have hsm := same42
        rw [← hZ] at hv42 hsm
        have HZZ := Hid.mk' hZ
        clear hZ
        cases hyn : pn (bi l j) with
        | true =>
          have hjz : (j : Int) < (z : Int) := by have := HZU.out hyn; omega
          rw [hyn] at C1
          have HOC2 : Hid (∀ x : Int, oc l x j (z + 1 - j) = 0) := fun x => by have := HOC.out x; rw [Nat.min_eq_left (by omega), Nat.max_eq_right (by omega)] at this; exact this
          clear HZU HZD hyn HOC
          have HYO := Hid.mk' (show ∃ y, y = po (bi l j) from ⟨_, rfl⟩)
          generalize po (bi l j) = yo at *
          generalize hyb : bi l j = yb at *
          clear hyb
          have hmin : min (j : Int) (z : Int) = (j : Int) := by omega
          have hmax : max (j : Int) (z : Int) = (z : Int) := by omega
          have hwz : IntKind.i64.wrap ((z : Int) + 1) = (z : Int) + 1 := by rw [IntKind.wrap_i64]; omega
          have hzc : (z : Int) + 1 ≤ (c : Int) := by omega
          have hjz1 : (j : Int) ≤ (z : Int) + 1 := by omega
          go_wp2_with (first | (go_at_call 14; refine C1.out.mono ?_; rintro e w' ⟨rfl, hw⟩; have hq := hw.symm; subst hq; clear hw) | fail)
          refine MV.out.mono ?_
          rintro e w4 ⟨rfl, hb4⟩
          have B4 := Hid.mk' (bT B3.out hb4)
          have TB4 := Hid.mk' (TB.out.keep hb4)
          have e1 : w4.cell? ⟨G1, 1, none⟩ = some (.int .i64 z) := keepC hb4 d1
          have ez : w4.cell? ⟨gg, o + z, none⟩ = some (.int .u8 yo) := keepC hb4 cz
          have hG1 := TB4.out.lt
          have hgg := lt_of_cell ez
          have hBA : w.heap.size ≤ w4.heap.size + 1 := by have := B4.out.size; omega
          clear hb4 cz cj d1 C1 MV
          dsimp only
          go_wp2
          have AB : Hid (Blk ((w4.alloc (.cells #[.int .i64 z, .int .i64 j, .int .i64 2] 30)).alloc (.cells Z 42)) (w4.heap.size + 1) 42 (arr l j 0)) := by
            unfold Hid; rw [arr_zero, ← HZZ.out]
            have := Blk.new (w4.alloc (.cells #[.int .i64 z, .int .i64 j, .int .i64 2] 30)) 42 Z
            simpa using this
          have B5 := Hid.mk' (bAlloc (bAlloc B4.out (.cells #[.int .i64 z, .int .i64 j, .int .i64 2] 30)) (.cells Z 42))
          have HBA := Hid.mk' hBA
          generalize (w4.alloc (.cells #[.int .i64 z, .int .i64 j, .int .i64 2] 30)).alloc (.cells Z 42) = W5 at *
          generalize w4.heap.size + 1 = BA at *
          clear B4 TB4 e1 ez hG1 hgg hBA
          go_loopg [154] (z + 1 - j) (fun g x154 wx => ∃ d : Nat, x154 = .int .i64 d ∧ d + g = z + 1 - j ∧ Hid (Blk wx BA 42 (arr l j d)) ∧ Hid (Below w.heap.size w wx))
          case atStart => exact ⟨0, rfl, by omega, AB.out, B5.out⟩
          case round =>
            obtain ⟨d, rfl, hd, AD, BD⟩ := hrel
            have hd0 : (0 : Int) ≤ (d : Int) := by omega
            have hdb : (d : Int) ≤ 140737488355328 := by omega
            cases gk with
            | zero =>
              have hdx : ¬ ((d : Int) < ((z + 1 - j : Nat) : Int)) := by omega
              have AZ : Hid (Blk wr BA 42 Z) := by
                unfold Hid; have := AD.out; rw [show d = z + 1 - j by omega, arr_end HOC2.out, ← HZZ.out] at this; exact this
              go_wp2
              refine wp_load_mid 42 (.tmp 17) rfl BA 0 rfl Z.toList (.array 256 3) (fun k v hv => by have := AZ.out.cell (j := k) (v := v) (by simpa using hv); simpa using this) Tryd.underlying42 rfl (by rw [HZZ.out, (zero_of_info info42).2]; simp) ?_
              rw [Array.toArray_toList]
              go_wp2
              go_ret
              exact ⟨rfl, BD.out⟩
            | succ g =>
              have hdx : (d : Int) < ((z + 1 - j : Nat) : Int) := by omega
              have TD := HT.out.keep BD.out
              obtain ⟨x, hx, hx6⟩ : ∃ x : Nat, bi l (j + d) = x ∧ x < 256 := ⟨(at8 l (j + d)).toNat, rfl, (at8 l (j + d)).toNat_lt⟩
              have cd : wr.cell? ⟨gg, o + j + d, none⟩ = some (.int .u8 (x : Int)) := by
                have := TD.cells _ rfl (j + d) (by omega)
                rw [add_none, ← Nat.add_assoc] at this
                rw [← hx]; exact this
              clear TD
              have C3 := Hid.mk' (partner_any (x : Int) wr)
              unfold ptr at C3
              have hx0 : (0 : Int) ≤ (x : Int) := by omega
              have hx1 : (x : Int) < 256 := by omega
              have HX := Hid.mk' hx
              clear hx
              cases hk : pk (x : Int) with
              | false =>
                have AK : Hid (Blk wr BA 42 (arr l j (d + 1))) := by unfold Hid; rw [arr_skip (by rw [HX.out]; exact hk)]; exact AD.out
                rw [hk] at C3
                clear hk
                generalize po (x : Int) = xo at *
                generalize pn (x : Int) = xn at *
                go_wp2_with (first | (go_at_call 14; refine C3.out.mono ?_; rintro e w' ⟨rfl, hw⟩; have hq := hw.symm; subst hq; clear hw) | fail)
                go_roundg g
                case measure => omega
                case rel => exact ⟨d + 1, by go_num, by omega, AK.out, BD.out⟩
              | true =>
                have hob := oc_bound l
                have fz := AD.out.frozen
                cases hnn : pn (x : Int) with
                | true =>
                  have AK := Hid.mk' (arr_open (l := l) (a := j) (d := d) (x := x) hx6 HX.out (by rw [HX.out]; exact hk) (by rw [HX.out]; exact hnn))
                  have ce := AD.out.cell (arr_at l j d x hx6)
                  have hwo : IntKind.i64.wrap (oc l (x : Int) j d + 1) = oc l (x : Int) j d + 1 := by have := hob (x : Int) j d; rw [IntKind.wrap_i64]; omega
                  rw [hk, hnn] at C3
                  have f1 := fz x
                  have A2 : Hid (Blk (wr.setCell ⟨BA, x, none⟩ (.int .i64 (oc l (x : Int) j d + 1))) BA 42 (arr l j (d + 1))) := by unfold Hid; rw [← AK.out]; exact AD.out.set _
                  have B2 := Hid.mk' (BD.out.setCell HBA.out (.int .i64 (oc l (x : Int) j d + 1)) (p := ⟨BA, x, none⟩))
                  clear hk hnn hob fz
                  generalize po (x : Int) = xo at *
                  generalize oc l (x : Int) j d = ocv at *
                  go_wp2_with (first | (go_at_call 14; refine C3.out.mono ?_; rintro e w' ⟨rfl, hw⟩; have hq := hw.symm; subst hq; clear hw) | fail)
                  go_roundg g
                  case measure => omega
                  case rel => exact ⟨d + 1, by go_num, by omega, A2.out, B2.out⟩
                | false =>
                  obtain ⟨y, hy, hy6⟩ : ∃ y : Nat, po (x : Int) = y ∧ y < 256 := by
                    rcases pk_cases hk with h | h | h | h | h | h <;> rw [h]
                    · exact ⟨41, rfl, by decide⟩
                    · exact ⟨40, rfl, by decide⟩
                    · exact ⟨93, rfl, by decide⟩
                    · exact ⟨91, rfl, by decide⟩
                    · exact ⟨125, rfl, by decide⟩
                    · exact ⟨123, rfl, by decide⟩
                  have AK := Hid.mk' (arr_shut (l := l) (a := j) (d := d) (x := y) hy6 (by rw [HX.out]; exact hy) (by rw [HX.out]; exact hk) (by rw [HX.out]; exact hnn))
                  have ce := AD.out.cell (arr_at l j d y hy6)
                  have hwo : IntKind.i64.wrap (oc l (y : Int) j d - 1) = oc l (y : Int) j d - 1 := by have := hob (y : Int) j d; rw [IntKind.wrap_i64]; omega
                  rw [hk, hnn, hy] at C3
                  have f1 := fz y
                  have hy0 : (0 : Int) ≤ (y : Int) := by omega
                  have hy1 : (y : Int) < 256 := by omega
                  have A2 : Hid (Blk (wr.setCell ⟨BA, y, none⟩ (.int .i64 (oc l (y : Int) j d - 1))) BA 42 (arr l j (d + 1))) := by unfold Hid; rw [← AK.out]; exact AD.out.set _
                  have B2 := Hid.mk' (BD.out.setCell HBA.out (.int .i64 (oc l (y : Int) j d - 1)) (p := ⟨BA, y, none⟩))
                  clear hk hnn hob fz hy
                  generalize oc l (y : Int) j d = ocv at *
                  go_wp2_with (first | (go_at_call 14; refine C3.out.mono ?_; rintro e w' ⟨rfl, hw⟩; have hq := hw.symm; subst hq; clear hw) | fail)
                  go_roundg g
                  case measure => omega
                  case rel => exact ⟨d + 1, by go_num, by omega, A2.out, B2.out⟩
        | false =>
          have hjz : (z : Int) < (j : Int) := by have := HZD.out hyn; omega
          rw [hyn] at C1
          have HOC2 : Hid (∀ x : Int, oc l x z (j + 1 - z) = 0) := fun x => by have := HOC.out x; rw [Nat.min_eq_right (by omega), Nat.max_eq_left (by omega)] at this; exact this
          clear HZU HZD hyn HOC
          have HYO := Hid.mk' (show ∃ y, y = po (bi l j) from ⟨_, rfl⟩)
          generalize po (bi l j) = yo at *
          generalize hyb : bi l j = yb at *
          clear hyb
          have hmin : min (j : Int) (z : Int) = (z : Int) := by omega
          have hmax : max (j : Int) (z : Int) = (j : Int) := by omega
          have hwz : IntKind.i64.wrap ((j : Int) + 1) = (j : Int) + 1 := by rw [IntKind.wrap_i64]; omega
          have hzc : (j : Int) + 1 ≤ (c : Int) := by omega
          have hjz1 : (z : Int) ≤ (j : Int) + 1 := by omega
          go_wp2_with (first | (go_at_call 14; refine C1.out.mono ?_; rintro e w' ⟨rfl, hw⟩; have hq := hw.symm; subst hq; clear hw) | fail)
          refine MV.out.mono ?_
          rintro e w4 ⟨rfl, hb4⟩
          have B4 := Hid.mk' (bT B3.out hb4)
          have TB4 := Hid.mk' (TB.out.keep hb4)
          have e1 : w4.cell? ⟨G1, 1, none⟩ = some (.int .i64 z) := keepC hb4 d1
          have ez : w4.cell? ⟨gg, o + z, none⟩ = some (.int .u8 yo) := keepC hb4 cz
          have hG1 := TB4.out.lt
          have hgg := lt_of_cell ez
          have hBA : w.heap.size ≤ w4.heap.size + 1 := by have := B4.out.size; omega
          clear hb4 cz cj d1 C1 MV
          dsimp only
          go_wp2
          have AB : Hid (Blk ((w4.alloc (.cells #[.int .i64 z, .int .i64 j, .int .i64 2] 30)).alloc (.cells Z 42)) (w4.heap.size + 1) 42 (arr l z 0)) := by
            unfold Hid; rw [arr_zero, ← HZZ.out]
            have := Blk.new (w4.alloc (.cells #[.int .i64 z, .int .i64 j, .int .i64 2] 30)) 42 Z
            simpa using this
          have B5 := Hid.mk' (bAlloc (bAlloc B4.out (.cells #[.int .i64 z, .int .i64 j, .int .i64 2] 30)) (.cells Z 42))
          have HBA := Hid.mk' hBA
          generalize (w4.alloc (.cells #[.int .i64 z, .int .i64 j, .int .i64 2] 30)).alloc (.cells Z 42) = W5 at *
          generalize w4.heap.size + 1 = BA at *
          clear B4 TB4 e1 ez hG1 hgg hBA
          go_loopg [154] (j + 1 - z) (fun g x154 wx => ∃ d : Nat, x154 = .int .i64 d ∧ d + g = j + 1 - z ∧ Hid (Blk wx BA 42 (arr l z d)) ∧ Hid (Below w.heap.size w wx))
          case atStart => exact ⟨0, rfl, by omega, AB.out, B5.out⟩
          case round =>
            obtain ⟨d, rfl, hd, AD, BD⟩ := hrel
            have hd0 : (0 : Int) ≤ (d : Int) := by omega
            have hdb : (d : Int) ≤ 140737488355328 := by omega
            cases gk with
            | zero =>
              have hdx : ¬ ((d : Int) < ((j + 1 - z : Nat) : Int)) := by omega
              have AZ : Hid (Blk wr BA 42 Z) := by
                unfold Hid; have := AD.out; rw [show d = j + 1 - z by omega, arr_end HOC2.out, ← HZZ.out] at this; exact this
              go_wp2
              refine wp_load_mid 42 (.tmp 17) rfl BA 0 rfl Z.toList (.array 256 3) (fun k v hv => by have := AZ.out.cell (j := k) (v := v) (by simpa using hv); simpa using this) Tryd.underlying42 rfl (by rw [HZZ.out, (zero_of_info info42).2]; simp) ?_
              rw [Array.toArray_toList]
              go_wp2
              go_ret
              exact ⟨rfl, BD.out⟩
            | succ g =>
              have hdx : (d : Int) < ((j + 1 - z : Nat) : Int) := by omega
              have TD := HT.out.keep BD.out
              obtain ⟨x, hx, hx6⟩ : ∃ x : Nat, bi l (z + d) = x ∧ x < 256 := ⟨(at8 l (z + d)).toNat, rfl, (at8 l (z + d)).toNat_lt⟩
              have cd : wr.cell? ⟨gg, o + z + d, none⟩ = some (.int .u8 (x : Int)) := by
                have := TD.cells _ rfl (z + d) (by omega)
                rw [add_none, ← Nat.add_assoc] at this
                rw [← hx]; exact this
              clear TD
              have C3 := Hid.mk' (partner_any (x : Int) wr)
              unfold ptr at C3
              have hx0 : (0 : Int) ≤ (x : Int) := by omega
              have hx1 : (x : Int) < 256 := by omega
              have HX := Hid.mk' hx
              clear hx
              cases hk : pk (x : Int) with
              | false =>
                have AK : Hid (Blk wr BA 42 (arr l z (d + 1))) := by unfold Hid; rw [arr_skip (by rw [HX.out]; exact hk)]; exact AD.out
                rw [hk] at C3
                clear hk
                generalize po (x : Int) = xo at *
                generalize pn (x : Int) = xn at *
                go_wp2_with (first | (go_at_call 14; refine C3.out.mono ?_; rintro e w' ⟨rfl, hw⟩; have hq := hw.symm; subst hq; clear hw) | fail)
                go_roundg g
                case measure => omega
                case rel => exact ⟨d + 1, by go_num, by omega, AK.out, BD.out⟩
              | true =>
                have hob := oc_bound l
                have fz := AD.out.frozen
                cases hnn : pn (x : Int) with
                | true =>
                  have AK := Hid.mk' (arr_open (l := l) (a := z) (d := d) (x := x) hx6 HX.out (by rw [HX.out]; exact hk) (by rw [HX.out]; exact hnn))
                  have ce := AD.out.cell (arr_at l z d x hx6)
                  have hwo : IntKind.i64.wrap (oc l (x : Int) z d + 1) = oc l (x : Int) z d + 1 := by have := hob (x : Int) z d; rw [IntKind.wrap_i64]; omega
                  rw [hk, hnn] at C3
                  have f1 := fz x
                  have A2 : Hid (Blk (wr.setCell ⟨BA, x, none⟩ (.int .i64 (oc l (x : Int) z d + 1))) BA 42 (arr l z (d + 1))) := by unfold Hid; rw [← AK.out]; exact AD.out.set _
                  have B2 := Hid.mk' (BD.out.setCell HBA.out (.int .i64 (oc l (x : Int) z d + 1)) (p := ⟨BA, x, none⟩))
                  clear hk hnn hob fz
                  generalize po (x : Int) = xo at *
                  generalize oc l (x : Int) z d = ocv at *
                  go_wp2_with (first | (go_at_call 14; refine C3.out.mono ?_; rintro e w' ⟨rfl, hw⟩; have hq := hw.symm; subst hq; clear hw) | fail)
                  go_roundg g
                  case measure => omega
                  case rel => exact ⟨d + 1, by go_num, by omega, A2.out, B2.out⟩
                | false =>
                  obtain ⟨y, hy, hy6⟩ : ∃ y : Nat, po (x : Int) = y ∧ y < 256 := by
                    rcases pk_cases hk with h | h | h | h | h | h <;> rw [h]
                    · exact ⟨41, rfl, by decide⟩
                    · exact ⟨40, rfl, by decide⟩
                    · exact ⟨93, rfl, by decide⟩
                    · exact ⟨91, rfl, by decide⟩
                    · exact ⟨125, rfl, by decide⟩
                    · exact ⟨123, rfl, by decide⟩
                  have AK := Hid.mk' (arr_shut (l := l) (a := z) (d := d) (x := y) hy6 (by rw [HX.out]; exact hy) (by rw [HX.out]; exact hk) (by rw [HX.out]; exact hnn))
                  have ce := AD.out.cell (arr_at l z d y hy6)
                  have hwo : IntKind.i64.wrap (oc l (y : Int) z d - 1) = oc l (y : Int) z d - 1 := by have := hob (y : Int) z d; rw [IntKind.wrap_i64]; omega
                  rw [hk, hnn, hy] at C3
                  have f1 := fz y
                  have hy0 : (0 : Int) ≤ (y : Int) := by omega
                  have hy1 : (y : Int) < 256 := by omega
                  have A2 : Hid (Blk (wr.setCell ⟨BA, y, none⟩ (.int .i64 (oc l (y : Int) z d - 1))) BA 42 (arr l z (d + 1))) := by unfold Hid; rw [← AK.out]; exact AD.out.set _
                  have B2 := Hid.mk' (BD.out.setCell HBA.out (.int .i64 (oc l (y : Int) z d - 1)) (p := ⟨BA, y, none⟩))
                  clear hk hnn hob fz hy
                  generalize oc l (y : Int) z d = ocv at *
                  go_wp2_with (first | (go_at_call 14; refine C3.out.mono ?_; rintro e w' ⟨rfl, hw⟩; have hq := hw.symm; subst hq; clear hw) | fail)
                  go_roundg g
                  case measure => omega
                  case rel => exact ⟨d + 1, by go_num, by omega, A2.out, B2.out⟩
end Go.Proofs.YtkapddemgodamaaDoor
