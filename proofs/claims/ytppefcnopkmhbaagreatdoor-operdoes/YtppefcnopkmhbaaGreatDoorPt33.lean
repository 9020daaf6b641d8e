/- Rrw -/
import Derived.Test.YtppefcnopkmhbaaGreatDoorPt20
import Derived.Test.YtppefcnopkmhbaaGreatDoorPt32
import Derived.Test.YtppefcnopkmhbaaGreatDoorPt31
import Derived.Test.YtppefcnopkmhbaaGreatDoorPt08
namespace Go.Proofs.YtppefcnopkmhbaaGreatDoor
open Go.RowKit

set_option maxRecDepth 8000
def RwQ (x : Int × Int × Bool) (w : World) (e : Ending) (w' : World) : Prop := e = .returned (lnV x) ∧ Below w.heap.size w w'
/-- the pairs that are tried -/
def trP (f b last : Nat) : Nat → Int × Int
  | 0 => ((f : Int), (b : Int) - 1)
  | 1 => ((f : Int) + 1, (last : Int))
  | _ => (0, (last : Int))
/-- what is found behind so many tries -/
def trS (l : List UInt8) (F T : Int) (L D : Bool) (f b h : Nat) : Nat → Int × Int × Bool
  | 0 => (0, 0, false)
  | i + 1 => if isW l (trP f b (nl l) i).1 (trP f b (nl l) i).2 F T L D && (!(trS l F T L D f b h i).2.2 || decide ((trS l F T L D f b h i).2.1 < (h : Int))) then ((trP f b (nl l) i).1, (trP f b (nl l) i).2, true) else trS l F T L D f b h i
theorem trS_3 {l : List UInt8} {F T : Int} {L D : Bool} {k : Nat} (h0 : ¬ (F < 0 ∨ T < F ∨ (l.length : Int) < T)) (hL : L = true) : lnR l k F T L D = trS l F T L D (nl (l.take F.toNat)) (nl (l.take T.toNat)) (nl (l.take k)) 3 := by
  unfold lnR
  rw [if_neg h0, hL, if_neg (by simp)]
  have e1 : tr1 l F T true D (nl (l.take F.toNat)) (nl (l.take T.toNat)) = trS l F T true D (nl (l.take F.toNat)) (nl (l.take T.toNat)) (nl (l.take k)) 1 := by
    show _ = if isW l _ _ F T true D && (!false || _) then _ else _
    unfold tr1 trP trS
    simp
  rw [e1]
  rfl
set_option maxHeartbeats 8000000 in
set_option linter.unusedSimpArgs false in
theorem rrows_no0 (ao : Option Addr) (n c k : Nat) (l : List UInt8) (fF tT : Int) (L D : Bool) (w : World) (HT : Hid (Tx w ao n c l)) (_hk : k ≤ n) (_hbig : n ≤ 1048576) (h0 : fF < 0) :
    Calls Tryz.prog 24 #[.slice ao n c, .int .i64 (k : Int), .agg #[.int .i64 fF, .int .i64 tT, .bool L, .bool D]] w fun e w' => RwQ (lnR l k fF tT L D) w e w' := by
  obtain ⟨W1, hW1⟩ : ∃ x, w.alloc (.cells #[.int .i64 fF, .int .i64 tT, .bool L, .bool D] 28) = x := ⟨_, rfl⟩
  obtain ⟨B, hB⟩ : ∃ b, w.heap.size = b := ⟨_, rfl⟩
  have HB := Hid.mk' hB
  have K1 : Hid (Blk W1 B 28 (rgC fF tT L D)) := by unfold Hid; rw [← hW1, ← hB]; exact Blk.new w 28 _
  have L1 : Hid (Below w.heap.size w W1) := by unfold Hid; rw [← hW1]; exact bAlloc (Below.refl _ _) _
  have HT1 := Hid.mk' (HT.out.keep L1.out)
  have HLN := Hid.mk' HT.out.len
  obtain ⟨c0, c1, c2, c3⟩ := rgC_cells K1.out
  have HR : Hid (lnR l k fF tT L D = (0, 0, false)) := by unfold Hid lnR; rw [if_pos (by rw [HLN.out]; omega)]
  go_enter Tryz.func24, Tryz.ntmps24
  go_upto_region 1 with fail
  clear hW1 hB HT
  go_wp2_with fail
  refine bodyPost_ret (v := .tuple #[.int .i64 0, .int .i64 0, .bool false]) (by simp [results, Tryz.results24, go_sem]) rfl ?_
  exact ⟨by rw [HR.out]; rfl, L1.out⟩
set_option maxHeartbeats 8000000 in
set_option linter.unusedSimpArgs false in
theorem rrows_no1 (ao : Option Addr) (n c k : Nat) (l : List UInt8) (fF tT : Int) (L D : Bool) (w : World) (HT : Hid (Tx w ao n c l)) (_hk : k ≤ n) (_hbig : n ≤ 1048576) (h0 : 0 ≤ fF) (h1 : tT < fF) :
    Calls Tryz.prog 24 #[.slice ao n c, .int .i64 (k : Int), .agg #[.int .i64 fF, .int .i64 tT, .bool L, .bool D]] w fun e w' => RwQ (lnR l k fF tT L D) w e w' := by
  obtain ⟨W1, hW1⟩ : ∃ x, w.alloc (.cells #[.int .i64 fF, .int .i64 tT, .bool L, .bool D] 28) = x := ⟨_, rfl⟩
  obtain ⟨B, hB⟩ : ∃ b, w.heap.size = b := ⟨_, rfl⟩
  have HB := Hid.mk' hB
  have K1 : Hid (Blk W1 B 28 (rgC fF tT L D)) := by unfold Hid; rw [← hW1, ← hB]; exact Blk.new w 28 _
  have L1 : Hid (Below w.heap.size w W1) := by unfold Hid; rw [← hW1]; exact bAlloc (Below.refl _ _) _
  have HT1 := Hid.mk' (HT.out.keep L1.out)
  have HLN := Hid.mk' HT.out.len
  obtain ⟨c0, c1, c2, c3⟩ := rgC_cells K1.out
  have HR : Hid (lnR l k fF tT L D = (0, 0, false)) := by unfold Hid lnR; rw [if_pos (by rw [HLN.out]; omega)]
  have hz : ¬ fF < 0 := by omega
  go_enter Tryz.func24, Tryz.ntmps24
  go_upto_region 1 with fail
  clear hW1 hB HT
  go_wp2_with fail
  refine bodyPost_ret (v := .tuple #[.int .i64 0, .int .i64 0, .bool false]) (by simp [results, Tryz.results24, go_sem]) rfl ?_
  exact ⟨by rw [HR.out]; rfl, L1.out⟩
set_option maxHeartbeats 8000000 in
set_option linter.unusedSimpArgs false in
theorem rrows_no2 (ao : Option Addr) (n c k : Nat) (l : List UInt8) (fF tT : Int) (L D : Bool) (w : World) (HT : Hid (Tx w ao n c l)) (_hk : k ≤ n) (_hbig : n ≤ 1048576) (h0 : 0 ≤ fF) (h1 : fF ≤ tT) (h2 : (n : Int) < tT) :
    Calls Tryz.prog 24 #[.slice ao n c, .int .i64 (k : Int), .agg #[.int .i64 fF, .int .i64 tT, .bool L, .bool D]] w fun e w' => RwQ (lnR l k fF tT L D) w e w' := by
  obtain ⟨W1, hW1⟩ : ∃ x, w.alloc (.cells #[.int .i64 fF, .int .i64 tT, .bool L, .bool D] 28) = x := ⟨_, rfl⟩
  obtain ⟨B, hB⟩ : ∃ b, w.heap.size = b := ⟨_, rfl⟩
  have HB := Hid.mk' hB
  have K1 : Hid (Blk W1 B 28 (rgC fF tT L D)) := by unfold Hid; rw [← hW1, ← hB]; exact Blk.new w 28 _
  have L1 : Hid (Below w.heap.size w W1) := by unfold Hid; rw [← hW1]; exact bAlloc (Below.refl _ _) _
  have HT1 := Hid.mk' (HT.out.keep L1.out)
  have HLN := Hid.mk' HT.out.len
  obtain ⟨c0, c1, c2, c3⟩ := rgC_cells K1.out
  have HR : Hid (lnR l k fF tT L D = (0, 0, false)) := by unfold Hid lnR; rw [if_pos (by rw [HLN.out]; omega)]
  have hz : ¬ fF < 0 := by omega
  have hz2 : ¬ tT < fF := by omega
  go_enter Tryz.func24, Tryz.ntmps24
  go_upto_region 1 with fail
  clear hW1 hB HT
  go_wp2_with fail
  refine bodyPost_ret (v := .tuple #[.int .i64 0, .int .i64 0, .bool false]) (by simp [results, Tryz.results24, go_sem]) rfl ?_
  exact ⟨by rw [HR.out]; rfl, L1.out⟩
set_option maxHeartbeats 8000000 in
set_option linter.unusedSimpArgs false in
theorem rrows_part (ao : Option Addr) (n c k : Nat) (l : List UInt8) (fF tT : Int) (L D : Bool) (w : World) (HT : Hid (Tx w ao n c l)) (_hk : k ≤ n) (hbig : n ≤ 1048576) (f t : Nat) (hf : fF = (f : Int)) (ht : tT = (t : Int)) (hft : f ≤ t) (htn : t ≤ n) (hL : L = false) :
    Calls Tryz.prog 24 #[.slice ao n c, .int .i64 (k : Int), .agg #[.int .i64 fF, .int .i64 tT, .bool L, .bool D]] w fun e w' => RwQ (lnR l k fF tT L D) w e w' := by
  obtain ⟨W1, hW1⟩ : ∃ x, w.alloc (.cells #[.int .i64 fF, .int .i64 tT, .bool L, .bool D] 28) = x := ⟨_, rfl⟩
  obtain ⟨B, hB⟩ : ∃ b, w.heap.size = b := ⟨_, rfl⟩
  have HB := Hid.mk' hB
  have K1 : Hid (Blk W1 B 28 (rgC fF tT L D)) := by unfold Hid; rw [← hW1, ← hB]; exact Blk.new w 28 _
  have L1 : Hid (Below w.heap.size w W1) := by unfold Hid; rw [← hW1]; exact bAlloc (Below.refl _ _) _
  have HT1 := Hid.mk' (HT.out.keep L1.out)
  have HLN := Hid.mk' HT.out.len
  obtain ⟨c0, c1, c2, c3⟩ := rgC_cells K1.out
  subst hf ht hL
  have HR : Hid (lnR l k (f : Int) (t : Int) false D = ((nl (l.take f) : Int), (nl (l.take (max f (t - 1))) : Int), true)) := by
    unfold Hid lnR
    rw [if_neg (by rw [HLN.out]; omega), if_pos rfl, show (max (f : Int) ((t : Int) - 1)).toNat = max f (t - 1) by omega]
    rfl
  have CO : Hid (∀ W (i : Nat), i ≤ n → Below W1.heap.size W1 W → Calls Tryz.prog 43 #[.slice ao n c, .int .i64 (i : Int)] W fun e w' => e = .returned (.tuple #[.int .i64 (nl (l.take i) : Int), .int .i64 0]) ∧ w' = W) := fun W i hi hW => rof_at (ao := ao) (c := c) hi (HT1.out.keep hW)
  have hz : ¬ (f : Int) < 0 := by omega
  have hz2 : ¬ (t : Int) < (f : Int) := by omega
  have hz3 : ¬ (n : Int) < (t : Int) := by omega
  obtain ⟨m, hm⟩ : ∃ m, max f (t - 1) = m := ⟨_, rfl⟩
  have hmn : m ≤ n := by omega
  have hw1 : IntKind.i64.wrap ((t : Int) - 1) = (t : Int) - 1 := by rw [IntKind.wrap_i64]; omega
  have hmx : max (f : Int) ((t : Int) - 1) = (m : Int) := by omega
  rw [hm] at HR
  clear hm
  go_enter Tryz.func24, Tryz.ntmps24
  go_upto_region 1 with fail
  clear hW1 hB HT
  go_upto_region 3 with fail
  go_wp2_with fail
  refine (CO.out W1 f (by omega) (Below.refl _ _)).mono ?_
  rintro e w' ⟨rfl, hw⟩
  have hq9 := hw.symm
  subst hq9
  clear hw
  dsimp only
  go_upto_region 5 with fail
  go_wp2_with fail
  refine (CO.out W1 m hmn (Below.refl _ _)).mono ?_
  rintro e w' ⟨rfl, hw⟩
  have hq9 := hw.symm
  subst hq9
  clear hw
  dsimp only
  go_wp2_with fail
  refine bodyPost_ret (v := .tuple #[.int .i64 (nl (l.take f) : Int), .int .i64 (nl (l.take m) : Int), .bool true]) (by simp [results, Tryz.results24, go_sem]) rfl ?_
  exact ⟨by rw [HR.out]; rfl, L1.out⟩
set_option maxHeartbeats 8000000 in
set_option linter.unusedSimpArgs false in
theorem rrows_lines (ao : Option Addr) (n c k : Nat) (l : List UInt8) (fF tT : Int) (L D : Bool) (w : World) (HT : Hid (Tx w ao n c l)) (hk : k ≤ n) (hbig : n ≤ 1048576) (f t : Nat) (hf : fF = (f : Int)) (ht : tT = (t : Int)) (hft : f ≤ t) (htn : t ≤ n) (hL : L = true) :
    Calls Tryz.prog 24 #[.slice ao n c, .int .i64 (k : Int), .agg #[.int .i64 fF, .int .i64 tT, .bool L, .bool D]] w fun e w' => RwQ (lnR l k fF tT L D) w e w' := by
  obtain ⟨W1, hW1⟩ : ∃ x, w.alloc (.cells #[.int .i64 fF, .int .i64 tT, .bool L, .bool D] 28) = x := ⟨_, rfl⟩
  obtain ⟨B, hB⟩ : ∃ b, w.heap.size = b := ⟨_, rfl⟩
  have HB := Hid.mk' hB
  have K1 : Hid (Blk W1 B 28 (rgC fF tT L D)) := by unfold Hid; rw [← hW1, ← hB]; exact Blk.new w 28 _
  have L1 : Hid (Below w.heap.size w W1) := by unfold Hid; rw [← hW1]; exact bAlloc (Below.refl _ _) _
  have HT1 := Hid.mk' (HT.out.keep L1.out)
  have HLN := Hid.mk' HT.out.len
  obtain ⟨c0, c1, c2, c3⟩ := rgC_cells K1.out
  have HR := Hid.mk' (trS_3 (l := l) (F := fF) (T := tT) (L := L) (D := D) (k := k) (by rw [HLN.out]; omega) hL)
  subst hf ht hL
  rw [show ((f : Nat) : Int).toNat = f from rfl, show ((t : Nat) : Int).toNat = t from rfl] at HR
  have CO : Hid (∀ W (i : Nat), i ≤ n → Below W1.heap.size W1 W → Calls Tryz.prog 43 #[.slice ao n c, .int .i64 (i : Int)] W fun e w' => e = .returned (.tuple #[.int .i64 (nl (l.take i) : Int), .int .i64 0]) ∧ w' = W) := fun W i hi hW => rof_at (ao := ao) (c := c) hi (HT1.out.keep hW)
  have CN : Hid (∀ W, Below W1.heap.size W1 W → Calls Tryz.prog 51 #[.slice ao n c] W fun e w' => e = .returned (.int .i64 ((nl l : Int) + 1)) ∧ w' = W) := fun W hW => refCount_any ao n c l W (HT1.out.keep hW)
  have hnl := nl_le l
  rw [HLN.out] at hnl
  have hn1 := nl_take_le l f
  have hn2 := nl_take_le l t
  have hn3 := nl_take_le l k
  have hz : ¬ (f : Int) < 0 := by omega
  have hz2 : ¬ (t : Int) < (f : Int) := by omega
  have hz3 : ¬ (n : Int) < (t : Int) := by omega
  have HFB : Hid (∀ W (x y : Int), x ≤ 9223372036854775807 → y ≤ 9223372036854775807 → Below W1.heap.size W1 W → Calls Tryz.prog 61 #[.slice ao n c, .int .i64 x, .int .i64 y] W fun e w' => e = rt (wh l x y) ∧ Below W.heap.size W w') := fun W x y hx hy hW => rwhole_any ao n c x y l W hx hy (HT1.out.keep hW)
  go_enter Tryz.func24, Tryz.ntmps24
  go_upto_region 1 with fail
  clear hW1 hB HT
  go_upto_region 3 with fail
  go_wp2_with fail
  refine (CO.out W1 f (by omega) (Below.refl _ _)).mono ?_
  rintro e w' ⟨rfl, hw⟩
  have hq9 := hw.symm
  subst hq9
  clear hw
  dsimp only
  go_upto_region 7 with fail
  go_wp2_with fail
  refine (CO.out W1 k hk (Below.refl _ _)).mono ?_
  rintro e w' ⟨rfl, hw⟩
  have hq9 := hw.symm
  subst hq9
  clear hw
  dsimp only
  go_upto_region 8 with fail
  go_wp2_with fail
  refine (CO.out W1 t htn (Below.refl _ _)).mono ?_
  rintro e w' ⟨rfl, hw⟩
  have hq9 := hw.symm
  subst hq9
  clear hw
  dsimp only
  go_upto_region 9 with fail
  go_wp2_with fail
  refine (CN.out W1 (Below.refl _ _)).mono ?_
  rintro e w' ⟨rfl, hw⟩
  have hq9 := hw.symm
  subst hq9
  clear hw
  dsimp only
  obtain ⟨i0, hi0⟩ : ∃ x, nl (l.take f) = x := ⟨_, rfl⟩
  obtain ⟨bh, hbh⟩ : ∃ x, nl (l.take t) = x := ⟨_, rfl⟩
  obtain ⟨hh, hhh⟩ : ∃ x, nl (l.take k) = x := ⟨_, rfl⟩
  rw [hi0, hbh, hhh] at HR
  rw [hi0] at hn1
  rw [hbh] at hn2
  rw [hhh] at hn3
  rw [hi0, hbh, hhh]
  obtain ⟨nn, hnn⟩ : ∃ x, nl l = x := ⟨_, rfl⟩
  have HNN := Hid.mk' hnn
  rw [hnn] at hnl hn1 hn2 hn3 ⊢
  have hw1 : IntKind.i64.wrap ((bh : Int) - 1) = (bh : Int) - 1 := by rw [IntKind.wrap_i64]; omega
  have hw2 : IntKind.i64.wrap ((i0 : Int) + 1) = (i0 : Int) + 1 := by rw [IntKind.wrap_i64]; omega
  have hw3 : IntKind.i64.wrap ((nn : Int) + 1 - 1) = (nn : Int) := by rw [IntKind.wrap_i64]; omega
  clear hi0 hbh hhh hnn hz hz2 hz3 CO CN
  obtain ⟨W2, hW2⟩ : ∃ x, W1.alloc (.cells #[.int .i64 (i0 : Int), .int .i64 ((bh : Int) - 1), .int .i64 ((i0 : Int) + 1), .int .i64 (nn : Int), .int .i64 0, .int .i64 (nn : Int)] 104) = x := ⟨_, rfl⟩
  have hb2 : Below W1.heap.size W1 W2 := by rw [← hW2]; exact bAlloc (Below.refl _ _) _
  obtain ⟨Q, hQ⟩ : ∃ b, W1.heap.size = b := ⟨_, rfl⟩
  have K2 : Hid (Blk W2 Q 104 #[.int .i64 (i0 : Int), .int .i64 ((bh : Int) - 1), .int .i64 ((i0 : Int) + 1), .int .i64 (nn : Int), .int .i64 0, .int .i64 (nn : Int)]) := by unfold Hid; rw [← hW2, ← hQ]; exact Blk.new W1 104 _
  have B2 := Hid.mk' hb2
  go_upto_region 12 with fail
  clear hW2 hQ hb2 hw1 hw2 hw3
  go_wp2_with fail
  go_loopg [19, 20, 21, 22] 3 (fun M x19 x20 x21 x22 wx => ∃ i : Nat, x19 = .int .i64 (trS l (f : Int) (t : Int) true D i0 bh hh i).1 ∧ x20 = .int .i64 (trS l (f : Int) (t : Int) true D i0 bh hh i).2.1 ∧ x21 = .bool (trS l (f : Int) (t : Int) true D i0 bh hh i).2.2 ∧ x22 = .int .i64 (i : Int) ∧ i + M = 3 ∧ Hid (Below W2.heap.size W2 wx))
  case atStart => exact ⟨0, rfl, rfl, rfl, rfl, by omega, Below.refl _ _⟩
  case round =>
    obtain ⟨i, rfl, rfl, rfl, rfl, him, KB⟩ := hrel
    obtain ⟨⟨sa, sb, sf⟩, hs⟩ : ∃ x, trS l (f : Int) (t : Int) true D i0 bh hh i = x := ⟨_, rfl⟩
    rw [hs]
    dsimp only
    cases gk with
    | zero =>
      obtain rfl : i = 3 := by omega
      have HR2 : Hid (lnR l k (f : Int) (t : Int) true D = (sa, sb, sf)) := by unfold Hid; rw [HR.out, hs]
      go_wp2
      refine bodyPost_ret (v := .tuple #[.int .i64 sa, .int .i64 sb, .bool sf]) (by simp [results, Tryz.results24, go_sem]) rfl ?_
      exact ⟨by rw [HR2.out]; rfl, bT L1.out (bT B2.out KB.out)⟩
    | succ go =>
      have hi3 : (i : Int) < 3 := by omega
      have K3 := Hid.mk' (K2.out.keep KB.out)
      have R3 := Hid.mk' (K1.out.keep (bT B2.out KB.out))
      have B3 := Hid.mk' (bT B2.out KB.out)
      obtain ⟨⟨px, py⟩, hp⟩ : ∃ x, trP i0 bh nn i = x := ⟨_, rfl⟩
      have hcs : wr.cell? ⟨Q, i * 2, none⟩ = some (.int .i64 px) ∧ wr.cell? ⟨Q, i * 2 + 1, none⟩ = some (.int .i64 py) := by
        match i, him, hp with
        | 0, _, hp => injection hp with h1 h2; subst h1 h2; exact ⟨K3.out.cell rfl, K3.out.cell rfl⟩
        | 1, _, hp => injection hp with h1 h2; subst h1 h2; exact ⟨K3.out.cell rfl, K3.out.cell rfl⟩
        | 2, _, hp => injection hp with h1 h2; subst h1 h2; exact ⟨K3.out.cell rfl, K3.out.cell rfl⟩
        | j + 3, him, _ => omega
      have hpb : px ≤ 9223372036854775807 ∧ py ≤ 9223372036854775807 := by
        match i, him, hp with
        | 0, _, hp => injection hp with h1 h2; omega
        | 1, _, hp => injection hp with h1 h2; omega
        | 2, _, hp => injection hp with h1 h2; omega
        | j + 3, him, _ => omega
      have HSN : Hid (trS l (f : Int) (t : Int) true D i0 bh hh (i + 1) = if isW l px py (f : Int) (t : Int) true D && (!sf || decide (sb < (hh : Int))) then (px, py, true) else (sa, sb, sf)) := by
        unfold Hid
        show (if isW l (trP i0 bh (nl l) i).1 (trP i0 bh (nl l) i).2 (f : Int) (t : Int) true D && (!(trS l (f : Int) (t : Int) true D i0 bh hh i).2.2 || decide ((trS l (f : Int) (t : Int) true D i0 bh hh i).2.1 < (hh : Int))) then ((trP i0 bh (nl l) i).1, (trP i0 bh (nl l) i).2, true) else trS l (f : Int) (t : Int) true D i0 bh hh i) = _
        rw [HNN.out, hp, hs]
      obtain ⟨k0, k1⟩ := hcs
      have hi0' : (0 : Int) ≤ (i : Int) := by omega
      have CW := Hid.mk' (HFB.out wr px py hpb.1 hpb.2 B3.out)
      have hwi : IntKind.i64.wrap ((i : Int) + 1) = ((i + 1 : Nat) : Int) := by rw [IntKind.wrap_i64]; omega
      clear hs hp
      go_upto_region 15 with fail
      go_quiet (fail)
      go_upto_region 16 with fail
      have hb4 := below_drewN wr nq
      generalize wr.drewN nq = w4 at *
      have K4 := Hid.mk' (K3.out.keep hb4)
      have R4 := Hid.mk' (R3.out.keep hb4)
      have B4 := Hid.mk' (bT KB.out hb4)
      obtain ⟨⟨rF, rT, rL, rD, rE⟩, hr⟩ : ∃ r, wh l px py = r := ⟨_, rfl⟩
      have HIS : Hid (isW l px py (f : Int) (t : Int) true D = ((rE == 0) && ((rF == (f : Int)) && ((rT == (t : Int)) && ((rL == true) && (rD == D)))))) := by unfold Hid isW; rw [hr]
      have CW2 := HFB.out w4 px py hpb.1 hpb.2 (bT B2.out B4.out)
      rw [hr] at CW2
      unfold rt at CW2
      dsimp only at CW2
      have CW := Hid.mk' CW2
      clear CW2 hr hb4 K3 R3 B3 hpb k0 k1 KB hi0'
      go_wp2_with fail
      refine CW.out.mono ?_
      rintro e w5 ⟨rfl, hb5⟩
      dsimp only
      obtain ⟨w6, hw6⟩ : ∃ x, w5.alloc (.cells #[.int .i64 rF, .int .i64 rT, .bool rL, .bool rD] 28) = x := ⟨_, rfl⟩
      obtain ⟨Q2, hQ2⟩ : ∃ q, w5.heap.size = q := ⟨_, rfl⟩
      have hb6 : Below w5.heap.size w5 w6 := by rw [← hw6]; exact bAlloc (Below.refl _ _) _
      have J6 : Hid (Blk w6 Q2 28 #[.int .i64 rF, .int .i64 rT, .bool rL, .bool rD]) := by unfold Hid; rw [← hw6, ← hQ2]; exact Blk.new w5 28 _
      have R6 := Hid.mk' (R4.out.keep (bT hb5 hb6))
      have B6 := Hid.mk' (bT B4.out (bT hb5 hb6))
      clear hb5 hb6 CW K4 R4 B4
      go_upto_region 17 with fail
      clear hw6 hQ2
      obtain ⟨k0, k1, k2, k3⟩ := rgC_cells R6.out
      have j0 : w6.cell? ⟨Q2, 0, none⟩ = some (.int .i64 rF) := J6.out.cell rfl
      have j1 : w6.cell? ⟨Q2, 1, none⟩ = some (.int .i64 rT) := J6.out.cell rfl
      have j2 : w6.cell? ⟨Q2, 2, none⟩ = some (.bool rL) := J6.out.cell rfl
      have j3 : w6.cell? ⟨Q2, 3, none⟩ = some (.bool rD) := J6.out.cell rfl
      by_cases hE : rE = 0
      · subst hE
        have e1 : ((0 : Int) == 0) = true := rfl
        rcases Bool.eq_false_or_eq_true (rF == (f : Int)) with e2 | e2
        · skip
          rcases Bool.eq_false_or_eq_true (rT == (t : Int)) with e3 | e3
          · skip
            rcases Bool.eq_false_or_eq_true (rL == true) with e4 | e4
            · skip
              rcases Bool.eq_false_or_eq_true (rD == D) with e5 | e5
              · skip
                have hf9 : rF = (f : Int) := eq_of_beq e2
                have ht9 : rT = (t : Int) := eq_of_beq e3
                have hl9 : rL = true := eq_of_beq e4
                have hd9 : rD = D := eq_of_beq e5
                subst hf9 ht9 hl9 hd9
                cases sf with
                | false =>
                  have HS2 : Hid (trS l (f : Int) (t : Int) true rD i0 bh hh (i + 1) = (px, py, true)) := by unfold Hid; rw [HSN.out, HIS.out]; simp
                  clear HSN HIS
                  go_wp2_with fail
                  go_roundg go
                  case measure => omega
                  case rel => exact ⟨i + 1, by rw [HS2.out], by rw [HS2.out], by rw [HS2.out], by go_num, by omega, B6.out⟩
                | true =>
                  by_cases hlt : sb < (hh : Int)
                  · have HS2 : Hid (trS l (f : Int) (t : Int) true rD i0 bh hh (i + 1) = (px, py, true)) := by unfold Hid; rw [HSN.out, HIS.out]; simp [hlt]
                    clear HSN HIS
                    go_wp2_with fail
                    go_roundg go
                    case measure => omega
                    case rel => exact ⟨i + 1, by rw [HS2.out], by rw [HS2.out], by rw [HS2.out], by go_num, by omega, B6.out⟩
                  · have HS2 : Hid (trS l (f : Int) (t : Int) true rD i0 bh hh (i + 1) = (sa, sb, true)) := by unfold Hid; rw [HSN.out, HIS.out]; simp [hlt]
                    clear HSN HIS
                    go_wp2_with fail
                    go_roundg go
                    case measure => omega
                    case rel => exact ⟨i + 1, by rw [HS2.out], by rw [HS2.out], by rw [HS2.out], by go_num, by omega, B6.out⟩
              · skip
                have HS2 : Hid (trS l (f : Int) (t : Int) true D i0 bh hh (i + 1) = (sa, sb, sf)) := by unfold Hid; rw [HSN.out, HIS.out]; simp only [e1, e2, e3, e4, e5, Bool.false_and, Bool.and_false, Bool.true_and, Bool.and_true]; simp
                clear HSN HIS
                go_wp2_with fail
                go_roundg go
                case measure => omega
                case rel => exact ⟨i + 1, by rw [HS2.out], by rw [HS2.out], by rw [HS2.out], by go_num, by omega, B6.out⟩
            · skip
              have HS2 : Hid (trS l (f : Int) (t : Int) true D i0 bh hh (i + 1) = (sa, sb, sf)) := by unfold Hid; rw [HSN.out, HIS.out]; simp only [e1, e2, e3, e4, Bool.false_and, Bool.and_false, Bool.true_and, Bool.and_true]; simp
              clear HSN HIS
              go_wp2_with fail
              go_roundg go
              case measure => omega
              case rel => exact ⟨i + 1, by rw [HS2.out], by rw [HS2.out], by rw [HS2.out], by go_num, by omega, B6.out⟩
          · skip
            have HS2 : Hid (trS l (f : Int) (t : Int) true D i0 bh hh (i + 1) = (sa, sb, sf)) := by unfold Hid; rw [HSN.out, HIS.out]; simp only [e1, e2, e3, Bool.false_and, Bool.and_false, Bool.true_and, Bool.and_true]; simp
            clear HSN HIS
            go_wp2_with fail
            go_roundg go
            case measure => omega
            case rel => exact ⟨i + 1, by rw [HS2.out], by rw [HS2.out], by rw [HS2.out], by go_num, by omega, B6.out⟩
        · skip
          have HS2 : Hid (trS l (f : Int) (t : Int) true D i0 bh hh (i + 1) = (sa, sb, sf)) := by unfold Hid; rw [HSN.out, HIS.out]; simp only [e1, e2, Bool.false_and, Bool.and_false, Bool.true_and, Bool.and_true]; simp
          clear HSN HIS
          go_wp2_with fail
          go_roundg go
          case measure => omega
          case rel => exact ⟨i + 1, by rw [HS2.out], by rw [HS2.out], by rw [HS2.out], by go_num, by omega, B6.out⟩
      · have e1 : (rE == 0) = false := beq_eq_false_iff_ne.2 hE
        have HS2 : Hid (trS l (f : Int) (t : Int) true D i0 bh hh (i + 1) = (sa, sb, sf)) := by unfold Hid; rw [HSN.out, HIS.out]; simp only [e1, Bool.false_and, Bool.and_false, Bool.true_and, Bool.and_true]; simp
        clear HSN HIS
        go_wp2_with fail
        go_roundg go
        case measure => omega
        case rel => exact ⟨i + 1, by rw [HS2.out], by rw [HS2.out], by rw [HS2.out], by go_num, by omega, B6.out⟩
theorem rrows_any (ao : Option Addr) (n c k : Nat) (l : List UInt8) (fF tT : Int) (L D : Bool) (w : World) (HT : Hid (Tx w ao n c l)) (hk : k ≤ n) (hbig : n ≤ 1048576) :
    Calls Tryz.prog 24 #[.slice ao n c, .int .i64 (k : Int), .agg #[.int .i64 fF, .int .i64 tT, .bool L, .bool D]] w fun e w' => RwQ (lnR l k fF tT L D) w e w' := by
  by_cases h0 : fF < 0
  · exact rrows_no0 ao n c k l fF tT L D w HT hk hbig h0
  by_cases h1 : tT < fF
  · exact rrows_no1 ao n c k l fF tT L D w HT hk hbig (by omega) h1
  by_cases h2 : (n : Int) < tT
  · exact rrows_no2 ao n c k l fF tT L D w HT hk hbig (by omega) (by omega) h2
  obtain ⟨f, rfl⟩ := Int.eq_ofNat_of_zero_le (show 0 ≤ fF by omega)
  obtain ⟨t, rfl⟩ := Int.eq_ofNat_of_zero_le (show 0 ≤ tT by omega)
  cases L with
  | false => exact rrows_part ao n c k l _ _ false D w HT hk hbig f t rfl rfl (by omega) (by omega) rfl
  | true => exact rrows_lines ao n c k l _ _ true D w HT hk hbig f t rfl rfl (by omega) (by omega) rfl
end Go.Proofs.YtppefcnopkmhbaaGreatDoor
