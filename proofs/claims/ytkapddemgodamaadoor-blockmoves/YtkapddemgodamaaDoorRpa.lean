/- The contracts of quoinref10's empty and Paragraphs. -/
import Derived.Test.YtkapddemgodamaaDoorSpl
import Derived.Test.YtkapddemgodamaaDoorRab
namespace Go.Proofs.YtkapddemgodamaaDoor
open Go.RowKit

/-- a line that is there and has no bytes -/
def emq (K : Nat) (f : Nat → List UInt8) (i : Int) : Bool := decide (0 ≤ i ∧ i < K ∧ (f i.toNat).length = 0)
theorem Ls.at {w : World} {v : Value} {K : Nat} {f : Nat → List UInt8} (h : Ls w v K f) : ∃ av cv, v = .slice av K cv := h.top
set_option maxHeartbeats 2000000 in
theorem empty_any (v : Value) (K : Nat) (f : Nat → List UInt8) (i : Int) (w : World) (HL : Hid (Ls w v K f)) :
    Calls Tryd.prog 27 #[v, .int .i64 i] w fun e w' => e = .returned (.bool (emq K f i)) ∧ w' = w := by
  obtain ⟨av, cv, rfl⟩ := HL.out.top
  by_cases h0 : 0 ≤ i
  · by_cases h1 : i < (K : Int)
    · obtain ⟨k, rfl⟩ := Int.eq_ofNat_of_zero_le h0
      obtain ⟨g, c, ai, ci, e, hc, _⟩ := HL.out.each k (by omega)
      cases e
      have HR : Hid (emq K f (k : Int) = (((f k).length : Int) == 0)) := by
        unfold Hid emq
        rw [Bool.eq_iff_iff, decide_eq_true_iff, beq_iff_eq, Int.toNat_natCast]
        constructor
        · rintro ⟨_, _, e⟩; omega
        · intro e; exact ⟨h0, h1, by omega⟩
      generalize emq K f (k : Int) = r at *
      generalize (f k).length = m at *
      go_enter Tryd.func27, Tryd.ntmps27
      go_wp2
      go_ret
      exact ⟨by rw [HR.out]; rfl, rfl⟩
    · have HR : Hid (emq K f i = false) := by unfold Hid emq; simp only [decide_eq_false_iff_not]; rintro ⟨_, e, _⟩; exact h1 e
      generalize emq K f i = r at *
      go_enter Tryd.func27, Tryd.ntmps27
      go_wp2
      go_ret
      exact ⟨by rw [HR.out]; rfl, rfl⟩
  · have HR : Hid (emq K f i = false) := by unfold Hid emq; simp only [decide_eq_false_iff_not]; rintro ⟨e, _, _⟩; exact h0 e
    generalize emq K f i = r at *
    go_enter Tryd.func27, Tryd.ntmps27
    go_wp2
    go_ret
    exact ⟨by rw [HR.out]; rfl, rfl⟩

/-- numbers as cells -/
def iv (L : List Nat) : List Value := L.map fun (q : Nat) => Value.int .i64 (q : Int)
theorem iv_snoc (L : List Nat) (q : Nat) : iv L ++ [Value.int .i64 (q : Int)] = iv (L ++ [q]) := by simp [iv]
theorem iv_one (q : Int) : ∀ u ∈ [Value.int .i64 q], u.oneCell' = true := by intro u hu; simp at hu; rw [hu]; rfl
theorem info3 : (Tryd.prog.info? 3).map (fun i => (i.zero, i.size, i.bytes)) = some (some (.int .i64 0), 1, 8) := by kernel_rfl
theorem il_own {w : World} {base : Nat} {v : Value} {L : List Nat} (h : w.ownsRow base 3 1 v L.length (iv L)) : Il w v L := by
  rcases h.2 with ⟨rfl, h0⟩ | ⟨g, cap, cur, rfl, _⟩
  · exact .inl ⟨rfl, List.eq_nil_of_length_eq_zero h0⟩
  · refine .inr ⟨g, cap, rfl, fun j hj => ?_⟩
    have := h.cells rfl j (.int .i64 (L.getD j 0 : Nat)) (by simp [iv, List.getD, hj])
    rwa [add_none, Nat.zero_add] at this
/-- where line number i begins -/
def ap (f : Nat → List UInt8) : Nat → Nat
  | 0 => 0
  | i + 1 => ap f i + (f i).length + 1
theorem ap_succ (f : Nat → List UInt8) (i : Nat) : ap f (i + 1) = ap f i + (f i).length + 1 := rfl
/-- the line that is looked at beside line number i -/
def oth (down : Bool) (i : Nat) : Int := if down = true then (i : Int) - 1 else (i : Int) + 1
def pcd (K : Nat) (f : Nat → List UInt8) (down : Bool) (i : Nat) : Bool := emq K f i && decide (0 ≤ oth down i) && decide (oth down i < K) && !emq K f (oth down i)
def pas (K : Nat) (f : Nat → List UInt8) (down : Bool) : Nat → List Nat
  | 0 => []
  | i + 1 => pas K f down i ++ (if pcd K f down i = true then [ap f i] else [])
theorem pas_len (K : Nat) (f : Nat → List UInt8) (down : Bool) : ∀ i, (pas K f down i).length ≤ i
  | 0 => Nat.le_refl _
  | i + 1 => by unfold pas; have := pas_len K f down i; split <;> simp <;> omega
theorem ap_mono (f : Nat → List UInt8) (K M : Nat) (h : ∀ i, i < K → ap f i + (f i).length ≤ M) : ∀ i, i ≤ K → ap f i ≤ M + 1
  | 0, _ => by unfold ap; omega
  | i + 1, hi => by unfold ap; have := h i (by omega); omega

set_option maxHeartbeats 8000000 in
theorem par_loop (down : Bool) (ao : Option Addr) (n c : Nat) (K : Nat) (f : Nat → List UInt8) (w : World) (hK : K ≤ 1048577) (hM : ∀ i, i < K → ap f i + (f i).length ≤ 1048576)
    (HS : Hid (Calls Tryd.prog 26 #[.slice ao n c] w fun e w' => ∃ v, e = .returned v ∧ Ls w' v K f ∧ Below w.heap.size w w')) :
    Calls Tryd.prog 18 #[.slice ao n c, .bool down] w fun e w' => ∃ v, e = .returned v ∧ Il w' v (pas K f down K) ∧ Below w.heap.size w w' := by
  obtain ⟨i0, hi, hz0, hz1, hz2⟩ := info_parts info3
  obtain ⟨L, hL⟩ : ∃ L, L = pas K f down K := ⟨_, rfl⟩
  rw [← hL]
  have HLL := Hid.mk' hL
  clear hL
  have HM := Hid.mk' hM
  have HAM := Hid.mk' (ap_mono f K 1048576 hM)
  clear hM
  go_enter Tryd.func18, Tryd.ntmps18
  go_wp2_with fail
  refine HS.out.mono ?_
  rintro e w1 ⟨v, rfl, hls, hb1⟩
  have LS := Hid.mk' hls
  have B1 := Hid.mk' hb1
  clear hls hb1 HS
  obtain ⟨av, cv, rfl⟩ := LS.out.top
  go_wp2
  go_loopg [6, 7, 8] K (fun g x6 x7 x8 wx => ∃ i : Nat, i + g = K ∧ x7 = .int .i64 (ap f i : Nat) ∧ x8 = .int .i64 (i : Int) ∧ Hid (wx.ownsRow w1.heap.size 3 1 x6 (pas K f down i).length (iv (pas K f down i))) ∧ Hid (Below w1.heap.size w1 wx))
  case atStart => exact ⟨0, by omega, rfl, rfl, World.ownsRow_nil _ _ _ _, Below.refl _ _⟩
  case round =>
    obtain ⟨i, hig, rfl, rfl, HO, HB⟩ := hrel
    obtain ⟨ax, cx, hax⟩ := own_shape HO.out
    subst hax
    have hi0 : (0 : Int) ≤ (i : Int) := by omega
    have hib : (i : Int) ≤ 1048577 := by omega
    cases gk with
    | zero =>
      have hix : ¬ ((i : Int) < (K : Int)) := by omega
      have HF : Hid (wr.ownsRow w1.heap.size 3 1 (.slice ax (pas K f down i).length cx) L.length (iv L)) := by
        unfold Hid; have := HO.out; obtain rfl : i = K := (by omega); rw [HLL.out]; exact this
      generalize (pas K f down i).length = m at *
      go_wp2
      go_ret
      exact ⟨_, rfl, il_own HF.out, bT B1.out HB.out⟩
    | succ g =>
      have hix : (i : Int) < (K : Int) := by omega
      have hpl := pas_len K f down i
      have hap := HAM.out i (by omega)
      have hfl := HM.out i (by omega)
      have hw1 : IntKind.i64.wrap ((i : Int) + 1) = (i : Int) + 1 := by rw [IntKind.wrap_i64]; omega
      have hw2 : IntKind.i64.wrap ((i : Int) - 1) = (i : Int) - 1 := by rw [IntKind.wrap_i64]; omega
      have LX := Hid.mk' (LS.out.keep HB.out)
      obtain ⟨gl, cl, ai, ci, ecl, hcl, _⟩ := LX.out.each i (by omega)
      cases ecl
      have C1 := Hid.mk' (empty_any _ K f (i : Int) wr LX)
      have C2 := Hid.mk' (empty_any _ K f (oth down i) wr LX)
      have hwa : IntKind.i64.wrap ((ap f i : Nat) + ((f i).length : Int)) = (ap f i : Nat) + ((f i).length : Int) := by rw [IntKind.wrap_i64]; omega
      have hwb : IntKind.i64.wrap ((ap f i : Nat) + ((f i).length : Int) + 1) = ((ap f (i + 1) : Nat) : Int) := by rw [IntKind.wrap_i64, ap_succ]; omega
      have HP : Hid (pcd K f down i = (emq K f i && decide (0 ≤ oth down i) && decide (oth down i < K) && !emq K f (oth down i))) := rfl
      have HPA : Hid (pas K f down (i + 1) = pas K f down i ++ (if pcd K f down i = true then [ap f i] else [])) := rfl
      cases down with
      | true =>
        have ho : oth true i = (i : Int) - 1 := rfl
        rw [ho] at C2 HP
        clear ho
        cases e1 : emq K f i with
        | false =>
          rw [e1] at C1
          have HE : Hid (pas K f true (i + 1) = pas K f true i) := by unfold Hid; rw [HPA.out, if_neg (by rw [HP.out, e1]; simp), List.append_nil]
          clear e1
          generalize hll : pas K f true i = L0 at *
          have HLQ := Hid.mk' hll
          clear hll
          generalize hap1 : ap f (i + 1) = a1 at *
          have HAQ := Hid.mk' hap1
          clear hap1
          generalize ap f i = a0 at *
          generalize (f i).length = m0 at *
          go_wp2_with (first | (go_at_call 27; with_reducible (refine C1.out.mono ?_); rintro e w' ⟨rfl, hw⟩; have hq := hw.symm; subst hq; clear hw) | (go_at_call 27; with_reducible (refine C2.out.mono ?_); rintro e w' ⟨rfl, hw⟩; have hq := hw.symm; subst hq; clear hw))
          go_roundg g
          case measure => omega
          case rel => exact ⟨i + 1, by omega, by rw [HAQ.out], by go_num, by unfold Hid; rw [HE.out]; exact HO.out, HB.out⟩
        | true =>
          rw [e1] at C1
          by_cases h0 : 0 ≤ (i : Int) - 1
          · by_cases h1 : (i : Int) - 1 < (K : Int)
            · cases e2 : emq K f ((i : Int) - 1) with
              | true =>
                rw [e2] at C2
                have HE : Hid (pas K f true (i + 1) = pas K f true i) := by unfold Hid; rw [HPA.out, if_neg (by rw [HP.out, e2]; simp), List.append_nil]
                clear e1 e2
                generalize hll : pas K f true i = L0 at *
                have HLQ := Hid.mk' hll
                clear hll
                generalize hap1 : ap f (i + 1) = a1 at *
                have HAQ := Hid.mk' hap1
                clear hap1
                generalize ap f i = a0 at *
                generalize (f i).length = m0 at *
                go_wp2_with (first | (go_at_call 27; with_reducible (refine C1.out.mono ?_); rintro e w' ⟨rfl, hw⟩; have hq := hw.symm; subst hq; clear hw) | (go_at_call 27; with_reducible (refine C2.out.mono ?_); rintro e w' ⟨rfl, hw⟩; have hq := hw.symm; subst hq; clear hw))
                go_roundg g
                case measure => omega
                case rel => exact ⟨i + 1, by omega, by rw [HAQ.out], by go_num, by unfold Hid; rw [HE.out]; exact HO.out, HB.out⟩
              | false =>
                rw [e2] at C2
                have HE : Hid (pas K f true (i + 1) = pas K f true i ++ [ap f i]) := by unfold Hid; rw [HPA.out, if_pos (by rw [HP.out, e1, e2, decide_eq_true h0, decide_eq_true h1]; rfl)]
                clear e1 e2
                generalize hll : pas K f true i = L0 at *
                have HLQ := Hid.mk' hll
                clear hll
                generalize hap1 : ap f (i + 1) = a1 at *
                have HAQ := Hid.mk' hap1
                clear hap1
                generalize ap f i = a0 at *
                generalize (f i).length = m0 at *
                go_wp2_with (first | (go_at_call 27; with_reducible (refine C1.out.mono ?_); rintro e w' ⟨rfl, hw⟩; have hq := hw.symm; subst hq; clear hw) | (go_at_call 27; with_reducible (refine C2.out.mono ?_); rintro e w' ⟨rfl, hw⟩; have hq := hw.symm; subst hq; clear hw) | (at_builtin; refine append_srv rfl (.tmp 42) (.tmp 44) 46 rfl w1.heap.size 3 i0 (.int .i64 0) 1 8 Tryd.underlying46 hi hz0 hz1 hz2 rfl (by decide) (.slice ax L0.length cx) L0.length (iv L0) rfl (HO.out.alloc _) (.slice (some ⟨wr.heap.size, 0, none⟩) 1 1) 1 [.int .i64 (a0 : Int)] rfl (.inr ⟨⟨wr.heap.size, 0, none⟩, 1, rfl, fun k u hk => lit_cells wr _ 3 k u hk⟩) rfl (iv_one _) (by unfold maxLen; omega) (by omega) (bAlloc HB.out _).size ?_))
                intro v2 w5 hown hgrow _
                have L2 : Hid (Below w1.heap.size w1 w5) := (bAlloc HB.out _).grown hgrow (bAlloc HB.out _).size (fun k hk => (HO.out.lt k hk).1)
                have O2 : Hid (w5.ownsRow w1.heap.size 3 1 v2 (L0 ++ [a0]).length (iv (L0 ++ [a0]))) := by unfold Hid; rw [← iv_snoc, List.length_append]; exact hown
                have hcl5 := keepC (bAlloc (Below.refl _ _) (.cells #[.int .i64 (a0 : Int)] 3)) hcl
                have hcl6 : w5.cell? ⟨gl, i, none⟩ = some (.slice ai m0 ci) := by
                  have hg0 := (LS.out.keep (Below.refl _ _))
                  obtain ⟨g9, c9, a9, i9, e9, h9, _⟩ := LS.out.each i (by omega)
                  cases e9
                  rw [L2.out.cell (lt_of_cell h9)]
                  have h8 := HB.out.cell (lt_of_cell h9)
                  rw [h8] at hcl
                  exact hcl
                clear hown hgrow hcl hcl5
                go_wp2
                go_roundg g
                case measure => omega
                case rel => exact ⟨i + 1, by omega, by rw [HAQ.out], by go_num, by unfold Hid; rw [HE.out]; exact O2.out, L2.out⟩
            · omega
          · have h0' : ¬ (0 ≤ (i : Int) - 1) := h0
            have HE : Hid (pas K f true (i + 1) = pas K f true i) := by unfold Hid; rw [HPA.out, if_neg (by rw [HP.out, decide_eq_false h0]; simp), List.append_nil]
            clear e1 h0
            generalize hll : pas K f true i = L0 at *
            have HLQ := Hid.mk' hll
            clear hll
            generalize hap1 : ap f (i + 1) = a1 at *
            have HAQ := Hid.mk' hap1
            clear hap1
            generalize ap f i = a0 at *
            generalize (f i).length = m0 at *
            go_wp2_with (first | (go_at_call 27; with_reducible (refine C1.out.mono ?_); rintro e w' ⟨rfl, hw⟩; have hq := hw.symm; subst hq; clear hw) | (go_at_call 27; with_reducible (refine C2.out.mono ?_); rintro e w' ⟨rfl, hw⟩; have hq := hw.symm; subst hq; clear hw))
            go_roundg g
            case measure => omega
            case rel => exact ⟨i + 1, by omega, by rw [HAQ.out], by go_num, by unfold Hid; rw [HE.out]; exact HO.out, HB.out⟩
      | false =>
        have ho : oth false i = (i : Int) + 1 := rfl
        rw [ho] at C2 HP
        clear ho
        cases e1 : emq K f i with
        | false =>
          rw [e1] at C1
          have HE : Hid (pas K f false (i + 1) = pas K f false i) := by unfold Hid; rw [HPA.out, if_neg (by rw [HP.out, e1]; simp), List.append_nil]
          clear e1
          generalize hll : pas K f false i = L0 at *
          have HLQ := Hid.mk' hll
          clear hll
          generalize hap1 : ap f (i + 1) = a1 at *
          have HAQ := Hid.mk' hap1
          clear hap1
          generalize ap f i = a0 at *
          generalize (f i).length = m0 at *
          go_wp2_with (first | (go_at_call 27; with_reducible (refine C1.out.mono ?_); rintro e w' ⟨rfl, hw⟩; have hq := hw.symm; subst hq; clear hw) | (go_at_call 27; with_reducible (refine C2.out.mono ?_); rintro e w' ⟨rfl, hw⟩; have hq := hw.symm; subst hq; clear hw))
          go_roundg g
          case measure => omega
          case rel => exact ⟨i + 1, by omega, by rw [HAQ.out], by go_num, by unfold Hid; rw [HE.out]; exact HO.out, HB.out⟩
        | true =>
          rw [e1] at C1
          by_cases h0 : 0 ≤ (i : Int) + 1
          · by_cases h1 : (i : Int) + 1 < (K : Int)
            · cases e2 : emq K f ((i : Int) + 1) with
              | true =>
                rw [e2] at C2
                have HE : Hid (pas K f false (i + 1) = pas K f false i) := by unfold Hid; rw [HPA.out, if_neg (by rw [HP.out, e2]; simp), List.append_nil]
                clear e1 e2
                generalize hll : pas K f false i = L0 at *
                have HLQ := Hid.mk' hll
                clear hll
                generalize hap1 : ap f (i + 1) = a1 at *
                have HAQ := Hid.mk' hap1
                clear hap1
                generalize ap f i = a0 at *
                generalize (f i).length = m0 at *
                go_wp2_with (first | (go_at_call 27; with_reducible (refine C1.out.mono ?_); rintro e w' ⟨rfl, hw⟩; have hq := hw.symm; subst hq; clear hw) | (go_at_call 27; with_reducible (refine C2.out.mono ?_); rintro e w' ⟨rfl, hw⟩; have hq := hw.symm; subst hq; clear hw))
                go_roundg g
                case measure => omega
                case rel => exact ⟨i + 1, by omega, by rw [HAQ.out], by go_num, by unfold Hid; rw [HE.out]; exact HO.out, HB.out⟩
              | false =>
                rw [e2] at C2
                have HE : Hid (pas K f false (i + 1) = pas K f false i ++ [ap f i]) := by unfold Hid; rw [HPA.out, if_pos (by rw [HP.out, e1, e2, decide_eq_true h0, decide_eq_true h1]; rfl)]
                clear e1 e2
                generalize hll : pas K f false i = L0 at *
                have HLQ := Hid.mk' hll
                clear hll
                generalize hap1 : ap f (i + 1) = a1 at *
                have HAQ := Hid.mk' hap1
                clear hap1
                generalize ap f i = a0 at *
                generalize (f i).length = m0 at *
                go_wp2_with (first | (go_at_call 27; with_reducible (refine C1.out.mono ?_); rintro e w' ⟨rfl, hw⟩; have hq := hw.symm; subst hq; clear hw) | (go_at_call 27; with_reducible (refine C2.out.mono ?_); rintro e w' ⟨rfl, hw⟩; have hq := hw.symm; subst hq; clear hw) | (at_builtin; refine append_srv rfl (.tmp 42) (.tmp 44) 46 rfl w1.heap.size 3 i0 (.int .i64 0) 1 8 Tryd.underlying46 hi hz0 hz1 hz2 rfl (by decide) (.slice ax L0.length cx) L0.length (iv L0) rfl (HO.out.alloc _) (.slice (some ⟨wr.heap.size, 0, none⟩) 1 1) 1 [.int .i64 (a0 : Int)] rfl (.inr ⟨⟨wr.heap.size, 0, none⟩, 1, rfl, fun k u hk => lit_cells wr _ 3 k u hk⟩) rfl (iv_one _) (by unfold maxLen; omega) (by omega) (bAlloc HB.out _).size ?_))
                intro v2 w5 hown hgrow _
                have L2 : Hid (Below w1.heap.size w1 w5) := (bAlloc HB.out _).grown hgrow (bAlloc HB.out _).size (fun k hk => (HO.out.lt k hk).1)
                have O2 : Hid (w5.ownsRow w1.heap.size 3 1 v2 (L0 ++ [a0]).length (iv (L0 ++ [a0]))) := by unfold Hid; rw [← iv_snoc, List.length_append]; exact hown
                have hcl5 := keepC (bAlloc (Below.refl _ _) (.cells #[.int .i64 (a0 : Int)] 3)) hcl
                have hcl6 : w5.cell? ⟨gl, i, none⟩ = some (.slice ai m0 ci) := by
                  have hg0 := (LS.out.keep (Below.refl _ _))
                  obtain ⟨g9, c9, a9, i9, e9, h9, _⟩ := LS.out.each i (by omega)
                  cases e9
                  rw [L2.out.cell (lt_of_cell h9)]
                  have h8 := HB.out.cell (lt_of_cell h9)
                  rw [h8] at hcl
                  exact hcl
                clear hown hgrow hcl hcl5
                go_wp2
                go_roundg g
                case measure => omega
                case rel => exact ⟨i + 1, by omega, by rw [HAQ.out], by go_num, by unfold Hid; rw [HE.out]; exact O2.out, L2.out⟩
            · have h1' : ¬ ((i : Int) + 1 < (K : Int)) := h1
              have HE : Hid (pas K f false (i + 1) = pas K f false i) := by unfold Hid; rw [HPA.out, if_neg (by rw [HP.out, decide_eq_false h1]; simp), List.append_nil]
              clear e1 h1
              generalize hll : pas K f false i = L0 at *
              have HLQ := Hid.mk' hll
              clear hll
              generalize hap1 : ap f (i + 1) = a1 at *
              have HAQ := Hid.mk' hap1
              clear hap1
              generalize ap f i = a0 at *
              generalize (f i).length = m0 at *
              go_wp2_with (first | (go_at_call 27; with_reducible (refine C1.out.mono ?_); rintro e w' ⟨rfl, hw⟩; have hq := hw.symm; subst hq; clear hw) | (go_at_call 27; with_reducible (refine C2.out.mono ?_); rintro e w' ⟨rfl, hw⟩; have hq := hw.symm; subst hq; clear hw))
              go_roundg g
              case measure => omega
              case rel => exact ⟨i + 1, by omega, by rw [HAQ.out], by go_num, by unfold Hid; rw [HE.out]; exact HO.out, HB.out⟩
          · omega
end Go.Proofs.YtkapddemgodamaaDoor
