/- ExtentEither walked. -/
import Derived.Test.YtbknnicpdkpmiaaEpt
import Derived.Test.YtbknnicpdkpmiaaAwk
namespace Go.Proofs.Ytbknnicpdkpmiaa
open Go.RowKit

set_option maxRecDepth 8000
set_option maxHeartbeats 4000000 in
theorem either_no (ao : Option Addr) (n c : Nat) (i j k : Int) (s : ByteArray) (l : List UInt8) (w : World) (HT : Hid (Tx w ao n c l)) (hr : ofr l i j k (opn s) = rno) :
    Calls Try.prog 7 #[.slice ao n c, .agg #[.int .i64 i, .int .i64 j, .int .i64 k], .string s] w fun e w' => e = .returned (.bool true) ∧ Below w.heap.size w w' := by
  have C1 := Hid.mk' (fun W (h : Below w.heap.size w W) => of_any ao n c i j k s l W (HT.out.keep h))
  have C2 := Hid.mk' (fun W (h : Below w.heap.size w W) => of_any ao n c j i k s l W (HT.out.keep h))
  rw [ofr_swap] at C2
  rw [hr] at C1 C2
  unfold rt rno at C1 C2
  dsimp only at C1 C2
  clear hr
  have G0 := Hid.mk' (Blk.new w 24 #[.int .i64 i, .int .i64 j, .int .i64 k])
  go_enter Try.func7, Try.ntmps7
  go_wp2_with fail
  refine (alive_any _).mono ?_
  rintro e w1 ⟨rfl, hb1⟩
  have B1 := Hid.mk' (bT (bAlloc (Below.refl _ w) (.cells #[.int .i64 i, .int .i64 j, .int .i64 k] 24)) hb1)
  have G1 := Hid.mk' (G0.out.keep hb1)
  clear hb1 G0
  have g0 := G1.out.cell (j := 0) rfl
  have g1 := G1.out.cell (j := 1) rfl
  have g2 := G1.out.cell (j := 2) rfl
  have gz := G1.out.lt
  go_wp2_with fail
  refine (C1.out _ B1.out).mono ?_
  rintro e w2 ⟨rfl, hb2⟩
  have B2 := Hid.mk' (bT B1.out hb2)
  have G2 := Hid.mk' (G1.out.keep hb2)
  have K2 := Hid.mk' (Blk.new w2 27 #[.int .i64 0, .int .i64 0, .bool false, .bool false])
  have U2 := Hid.mk' (bAlloc (Below.refl _ w2) (.cells #[.int .i64 0, .int .i64 0, .bool false, .bool false] 27))
  clear hb2 G1 g0 g1 g2 gz
  have g0 := G2.out.cell (j := 0) rfl
  have g1 := G2.out.cell (j := 1) rfl
  have g2 := G2.out.cell (j := 2) rfl
  have gz := G2.out.lt
  go_wp2_with fail
  refine (C2.out _ (bT B2.out U2.out)).mono ?_
  rintro e w3 ⟨rfl, hb3⟩
  have B3 := Hid.mk' (bT (bT B2.out U2.out) hb3)
  have K3 := Hid.mk' (K2.out.keep hb3)
  have G3 := Hid.mk' ((G2.out.keep U2.out).keep hb3)
  clear hb3 U2 K2 G2 g0 g1 g2 gz
  have a0 := K3.out.cell (j := 0) rfl
  have a1 := K3.out.cell (j := 1) rfl
  have a2 := K3.out.cell (j := 2) rfl
  have a3 := K3.out.cell (j := 3) rfl
  have az := K3.out.lt
  have g0 := G3.out.cell (j := 0) rfl
  have g1 := G3.out.cell (j := 1) rfl
  have g2 := G3.out.cell (j := 2) rfl
  have gz := G3.out.lt
  go_wp2
  go_ret
  exact ⟨rfl, bAlloc B3.out _⟩
set_option maxRecDepth 8000 in
set_option maxHeartbeats 4000000 in
theorem either_l1 (ao : Option Addr) (n c : Nat) (i j k : Int) (s : ByteArray) (l : List UInt8) (w : World) (f t a b : Nat) (D : Bool) (hbig : n ≤ 140737488351232) (HT : Hid (Tx w ao n c l)) (hr : ofr l i j k (opn s) = ⟨f, t, true, D, 0⟩) (hg : rgB l f t true D = true) (hft : f ≤ t) (htn : t ≤ n) (hbn : b ≤ n) (hab : a ≤ b) (hfa : f ≤ a) (hm1 : min i j = (a : Int)) (hm2 : max i j = (b : Int)) (hbt : b ≤ t) :
    Calls Try.prog 7 #[.slice ao n c, .agg #[.int .i64 i, .int .i64 j, .int .i64 k], .string s] w fun e w' => e = .returned (.bool true) ∧ Below w.heap.size w w' := by
  have C1 := Hid.mk' (fun W (h : Below w.heap.size w W) => of_any ao n c i j k s l W (HT.out.keep h))
  have C2 := Hid.mk' (fun W (h : Below w.heap.size w W) => of_any ao n c j i k s l W (HT.out.keep h))
  have C3 := Hid.mk' (fun W (h : Below w.heap.size w W) => take_yes ao n c f t true D l W hbig hg (HT.out.keep h))
  rw [ofr_swap] at C2
  rw [hr] at C1 C2
  unfold rt at C1 C2
  unfold tr at C3
  dsimp only at C1 C2
  have hbI : (n : Int) ≤ 140737488351232 := by omega
  have hft' : (f : Int) ≤ t := by omega
  have htn' : (t : Int) ≤ n := by omega
  have hbn' : (b : Int) ≤ n := by omega
  have hfa' : (f : Int) ≤ a := by omega
  have hab' : (a : Int) ≤ b := by omega
  have hbt' : (b : Int) ≤ t := by omega
  clear hr hg
  have G0 := Hid.mk' (Blk.new w 24 #[.int .i64 i, .int .i64 j, .int .i64 k])
  go_enter Try.func7, Try.ntmps7
  go_wp2_with fail
  refine (alive_any _).mono ?_
  rintro e w1 ⟨rfl, hb1⟩
  have B1 := Hid.mk' (bT (bAlloc (Below.refl _ w) (.cells #[.int .i64 i, .int .i64 j, .int .i64 k] 24)) hb1)
  have G1 := Hid.mk' (G0.out.keep hb1)
  clear hb1 G0
  have g0 := G1.out.cell (j := 0) rfl
  have g1 := G1.out.cell (j := 1) rfl
  have g2 := G1.out.cell (j := 2) rfl
  have gz := G1.out.lt
  go_wp2_with fail
  refine (C1.out _ B1.out).mono ?_
  rintro e w2 ⟨rfl, hb2⟩
  have B2 := Hid.mk' (bT B1.out hb2)
  have G2 := Hid.mk' (G1.out.keep hb2)
  have K2 := Hid.mk' (Blk.new w2 27 #[.int .i64 (f : Int), .int .i64 (t : Int), .bool true, .bool D])
  have U2 := Hid.mk' (bAlloc (Below.refl _ w2) (.cells #[.int .i64 (f : Int), .int .i64 (t : Int), .bool true, .bool D] 27))
  clear hb2 G1 g0 g1 g2 gz
  have g0 := G2.out.cell (j := 0) rfl
  have g1 := G2.out.cell (j := 1) rfl
  have g2 := G2.out.cell (j := 2) rfl
  have gz := G2.out.lt
  go_wp2_with fail
  refine (C2.out _ (bT B2.out U2.out)).mono ?_
  rintro e w3 ⟨rfl, hb3⟩
  have B3 := Hid.mk' (bT (bT B2.out U2.out) hb3)
  have K3 := Hid.mk' (K2.out.keep hb3)
  have G3 := Hid.mk' ((G2.out.keep U2.out).keep hb3)
  clear hb3 U2 K2 G2 g0 g1 g2 gz
  have a0 := K3.out.cell (j := 0) rfl
  have a1 := K3.out.cell (j := 1) rfl
  have a2 := K3.out.cell (j := 2) rfl
  have a3 := K3.out.cell (j := 3) rfl
  have az := K3.out.lt
  have g0 := G3.out.cell (j := 0) rfl
  have g1 := G3.out.cell (j := 1) rfl
  have g2 := G3.out.cell (j := 2) rfl
  have gz := G3.out.lt
  go_wp2_with fail
  go_region
  all_goals go_wp2_with fail
  all_goals (
    refine (C3.out _ (bAlloc B3.out _).drew).mono ?_
    rintro e w4 ⟨v, rfl, hown, hb4⟩
    have B4 := Hid.mk' (bT (bAlloc B3.out _).drew hb4)
    have K4 := Hid.mk' ((K3.out.keep (bAlloc (Below.refl _ _) (.cells #[.int .i64 (f : Int), .int .i64 (t : Int), .bool true, .bool D] 27)).drew).keep hb4)
    have G4 := Hid.mk' ((G3.out.keep (bAlloc (Below.refl _ _) (.cells #[.int .i64 (f : Int), .int .i64 (t : Int), .bool true, .bool D] 27)).drew).keep hb4)
    obtain ⟨ax, cx, ev⟩ := own_shape hown
    subst ev
    clear hown hb4 K3 G3 a0 a1 a2 a3 az g0 g1 g2 gz
    have a0 := K4.out.cell (j := 0) rfl
    have a1 := K4.out.cell (j := 1) rfl
    have a2 := K4.out.cell (j := 2) rfl
    have a3 := K4.out.cell (j := 3) rfl
    have az := K4.out.lt
    have g0 := G4.out.cell (j := 0) rfl
    have g1 := G4.out.cell (j := 1) rfl
    have g2 := G4.out.cell (j := 2) rfl
    have gz := G4.out.lt
    go_wp2
    go_ret
    exact ⟨rfl, bAlloc B4.out _⟩)
set_option maxRecDepth 8000 in
set_option maxHeartbeats 4000000 in
theorem either_l2 (ao : Option Addr) (n c : Nat) (i j k : Int) (s : ByteArray) (l : List UInt8) (w : World) (f t a b : Nat) (D : Bool) (hbig : n ≤ 140737488351232) (HT : Hid (Tx w ao n c l)) (hr : ofr l i j k (opn s) = ⟨f, t, true, D, 0⟩) (hg : rgB l f t true D = true) (hft : f ≤ t) (htn : t ≤ n) (hbn : b ≤ n) (hab : a ≤ b) (hfa : f ≤ a) (hm1 : min i j = (a : Int)) (hm2 : max i j = (b : Int)) (p : Nat) (hbp : b = p + 1) (hbt : t < b) (hle : le (at8 l p) = true) :
    Calls Try.prog 7 #[.slice ao n c, .agg #[.int .i64 i, .int .i64 j, .int .i64 k], .string s] w fun e w' => e = .returned (.bool true) ∧ Below w.heap.size w w' := by
  have C1 := Hid.mk' (fun W (h : Below w.heap.size w W) => of_any ao n c i j k s l W (HT.out.keep h))
  have C2 := Hid.mk' (fun W (h : Below w.heap.size w W) => of_any ao n c j i k s l W (HT.out.keep h))
  have C3 := Hid.mk' (fun W (h : Below w.heap.size w W) => take_yes ao n c f t true D l W hbig hg (HT.out.keep h))
  rw [ofr_swap] at C2
  rw [hr] at C1 C2
  unfold rt at C1 C2
  unfold tr at C3
  dsimp only at C1 C2
  have hbI : (n : Int) ≤ 140737488351232 := by omega
  have hft' : (f : Int) ≤ t := by omega
  have htn' : (t : Int) ≤ n := by omega
  have hbn' : (b : Int) ≤ n := by omega
  have hfa' : (f : Int) ≤ a := by omega
  have hab' : (a : Int) ≤ b := by omega
  have hp1 : (b : Int) - 1 = (p : Int) := by omega
  have hpn : (p : Int) < n := by omega
  have hp0 : (0 : Int) ≤ p := by omega
  have h10 : (((at8 l p).toNat : Int) == 10) = true := hle
  have hb0 : (0 : Int) < b := by omega
  have hbt' : ¬ (b : Int) ≤ t := by omega
  have hbt2 : (t : Int) < b := by omega
  have HP : Hid (p < n) := by unfold Hid; omega
  clear hbp
  clear hr hg
  have G0 := Hid.mk' (Blk.new w 24 #[.int .i64 i, .int .i64 j, .int .i64 k])
  go_enter Try.func7, Try.ntmps7
  go_wp2_with fail
  refine (alive_any _).mono ?_
  rintro e w1 ⟨rfl, hb1⟩
  have B1 := Hid.mk' (bT (bAlloc (Below.refl _ w) (.cells #[.int .i64 i, .int .i64 j, .int .i64 k] 24)) hb1)
  have G1 := Hid.mk' (G0.out.keep hb1)
  clear hb1 G0
  have g0 := G1.out.cell (j := 0) rfl
  have g1 := G1.out.cell (j := 1) rfl
  have g2 := G1.out.cell (j := 2) rfl
  have gz := G1.out.lt
  go_wp2_with fail
  refine (C1.out _ B1.out).mono ?_
  rintro e w2 ⟨rfl, hb2⟩
  have B2 := Hid.mk' (bT B1.out hb2)
  have G2 := Hid.mk' (G1.out.keep hb2)
  have K2 := Hid.mk' (Blk.new w2 27 #[.int .i64 (f : Int), .int .i64 (t : Int), .bool true, .bool D])
  have U2 := Hid.mk' (bAlloc (Below.refl _ w2) (.cells #[.int .i64 (f : Int), .int .i64 (t : Int), .bool true, .bool D] 27))
  clear hb2 G1 g0 g1 g2 gz
  have g0 := G2.out.cell (j := 0) rfl
  have g1 := G2.out.cell (j := 1) rfl
  have g2 := G2.out.cell (j := 2) rfl
  have gz := G2.out.lt
  go_wp2_with fail
  refine (C2.out _ (bT B2.out U2.out)).mono ?_
  rintro e w3 ⟨rfl, hb3⟩
  have B3 := Hid.mk' (bT (bT B2.out U2.out) hb3)
  have K3 := Hid.mk' (K2.out.keep hb3)
  have G3 := Hid.mk' ((G2.out.keep U2.out).keep hb3)
  clear hb3 U2 K2 G2 g0 g1 g2 gz
  have a0 := K3.out.cell (j := 0) rfl
  have a1 := K3.out.cell (j := 1) rfl
  have a2 := K3.out.cell (j := 2) rfl
  have a3 := K3.out.cell (j := 3) rfl
  have az := K3.out.lt
  have g0 := G3.out.cell (j := 0) rfl
  have g1 := G3.out.cell (j := 1) rfl
  have g2 := G3.out.cell (j := 2) rfl
  have gz := G3.out.lt
  go_wp2_with fail
  go_region
  all_goals go_wp2_with fail
  all_goals (
    refine (C3.out _ (bAlloc B3.out _).drew).mono ?_
    rintro e w4 ⟨v, rfl, hown, hb4⟩
    have B4 := Hid.mk' (bT (bAlloc B3.out _).drew hb4)
    have K4 := Hid.mk' ((K3.out.keep (bAlloc (Below.refl _ _) (.cells #[.int .i64 (f : Int), .int .i64 (t : Int), .bool true, .bool D] 27)).drew).keep hb4)
    have G4 := Hid.mk' ((G3.out.keep (bAlloc (Below.refl _ _) (.cells #[.int .i64 (f : Int), .int .i64 (t : Int), .bool true, .bool D] 27)).drew).keep hb4)
    obtain ⟨ax, cx, ev⟩ := own_shape hown
    subst ev
    clear hown hb4 K3 G3 a0 a1 a2 a3 az g0 g1 g2 gz
    have a0 := K4.out.cell (j := 0) rfl
    have a1 := K4.out.cell (j := 1) rfl
    have a2 := K4.out.cell (j := 2) rfl
    have a3 := K4.out.cell (j := 3) rfl
    have az := K4.out.lt
    have g0 := G4.out.cell (j := 0) rfl
    have g1 := G4.out.cell (j := 1) rfl
    have g2 := G4.out.cell (j := 2) rfl
    have gz := G4.out.lt
    obtain ⟨gt, ot, hao, hc⟩ := (HT.out.keep B4.out).at (by have := HP.out; omega)
    subst hao
    have hc0 := hc p (HP.out)
    have hgl : gt < w4.heap.size := lt_of_cell hc0
    have hgn : ¬ gt = w4.heap.size := by omega
    clear hc
    go_wp2
    go_ret
    exact ⟨rfl, bAlloc B4.out _⟩)
set_option maxRecDepth 8000 in
set_option maxHeartbeats 4000000 in
theorem either_p1 (ao : Option Addr) (n c : Nat) (i j k : Int) (s : ByteArray) (l : List UInt8) (w : World) (f t a b : Nat) (hbig : n ≤ 140737488351232) (HT : Hid (Tx w ao n c l)) (hr : ofr l i j k (opn s) = ⟨f, t, false, false, 0⟩) (hg : rgB l f t false false = true) (hft : f ≤ t) (htn : t ≤ n) (hbn : b ≤ n) (hab : a ≤ b) (hfa : f ≤ a) (hm1 : min i j = (a : Int)) (hm2 : max i j = (b : Int)) (hfe : f = a) (hk3 : ¬ k = 3) (hsh : shB (opn s) = false) (hbt : b ≤ t) (htb : t ≤ b + 1) :
    Calls Try.prog 7 #[.slice ao n c, .agg #[.int .i64 i, .int .i64 j, .int .i64 k], .string s] w fun e w' => e = .returned (.bool true) ∧ Below w.heap.size w w' := by
  have C1 := Hid.mk' (fun W (h : Below w.heap.size w W) => of_any ao n c i j k s l W (HT.out.keep h))
  have C2 := Hid.mk' (fun W (h : Below w.heap.size w W) => of_any ao n c j i k s l W (HT.out.keep h))
  have C3 := Hid.mk' (fun W (h : Below w.heap.size w W) => take_yes ao n c f t false false l W hbig hg (HT.out.keep h))
  rw [ofr_swap] at C2
  rw [hr] at C1 C2
  unfold rt at C1 C2
  unfold tr at C3
  dsimp only at C1 C2
  have hbI : (n : Int) ≤ 140737488351232 := by omega
  have hft' : (f : Int) ≤ t := by omega
  have htn' : (t : Int) ≤ n := by omega
  have hbn' : (b : Int) ≤ n := by omega
  have hfa' : (f : Int) ≤ a := by omega
  have hab' : (a : Int) ≤ b := by omega
  have s1 : (s.toList == [62]) = false := (op_rules s _ rfl).2.2.2.2.2.2.1.trans (by unfold shB at hsh; exact (Bool.or_eq_false_iff.1 hsh).1)
  have s2 : (s.toList == [60]) = false := (op_rules s _ rfl).2.2.2.2.2.2.2.trans (by unfold shB at hsh; exact (Bool.or_eq_false_iff.1 hsh).2)
  have hk3' : (k == 3) = false := by simpa using hk3
  clear hsh
  subst hfe
  have hbt' : (b : Int) ≤ t := by omega
  have htb' : (t : Int) ≤ (b : Int) + 1 := by omega
  clear hr hg
  have G0 := Hid.mk' (Blk.new w 24 #[.int .i64 i, .int .i64 j, .int .i64 k])
  go_enter Try.func7, Try.ntmps7
  go_wp2_with fail
  refine (alive_any _).mono ?_
  rintro e w1 ⟨rfl, hb1⟩
  have B1 := Hid.mk' (bT (bAlloc (Below.refl _ w) (.cells #[.int .i64 i, .int .i64 j, .int .i64 k] 24)) hb1)
  have G1 := Hid.mk' (G0.out.keep hb1)
  clear hb1 G0
  have g0 := G1.out.cell (j := 0) rfl
  have g1 := G1.out.cell (j := 1) rfl
  have g2 := G1.out.cell (j := 2) rfl
  have gz := G1.out.lt
  go_wp2_with fail
  refine (C1.out _ B1.out).mono ?_
  rintro e w2 ⟨rfl, hb2⟩
  have B2 := Hid.mk' (bT B1.out hb2)
  have G2 := Hid.mk' (G1.out.keep hb2)
  have K2 := Hid.mk' (Blk.new w2 27 #[.int .i64 (f : Int), .int .i64 (t : Int), .bool false, .bool false])
  have U2 := Hid.mk' (bAlloc (Below.refl _ w2) (.cells #[.int .i64 (f : Int), .int .i64 (t : Int), .bool false, .bool false] 27))
  clear hb2 G1 g0 g1 g2 gz
  have g0 := G2.out.cell (j := 0) rfl
  have g1 := G2.out.cell (j := 1) rfl
  have g2 := G2.out.cell (j := 2) rfl
  have gz := G2.out.lt
  go_wp2_with fail
  refine (C2.out _ (bT B2.out U2.out)).mono ?_
  rintro e w3 ⟨rfl, hb3⟩
  have B3 := Hid.mk' (bT (bT B2.out U2.out) hb3)
  have K3 := Hid.mk' (K2.out.keep hb3)
  have G3 := Hid.mk' ((G2.out.keep U2.out).keep hb3)
  clear hb3 U2 K2 G2 g0 g1 g2 gz
  have a0 := K3.out.cell (j := 0) rfl
  have a1 := K3.out.cell (j := 1) rfl
  have a2 := K3.out.cell (j := 2) rfl
  have a3 := K3.out.cell (j := 3) rfl
  have az := K3.out.lt
  have g0 := G3.out.cell (j := 0) rfl
  have g1 := G3.out.cell (j := 1) rfl
  have g2 := G3.out.cell (j := 2) rfl
  have gz := G3.out.lt
  go_wp2_with fail
  go_region
  all_goals go_wp2_with fail
  all_goals (
    refine (C3.out _ (bAlloc B3.out _).drew).mono ?_
    rintro e w4 ⟨v, rfl, hown, hb4⟩
    have B4 := Hid.mk' (bT (bAlloc B3.out _).drew hb4)
    have K4 := Hid.mk' ((K3.out.keep (bAlloc (Below.refl _ _) (.cells #[.int .i64 (f : Int), .int .i64 (t : Int), .bool false, .bool false] 27)).drew).keep hb4)
    have G4 := Hid.mk' ((G3.out.keep (bAlloc (Below.refl _ _) (.cells #[.int .i64 (f : Int), .int .i64 (t : Int), .bool false, .bool false] 27)).drew).keep hb4)
    obtain ⟨ax, cx, ev⟩ := own_shape hown
    subst ev
    clear hown hb4 K3 G3 a0 a1 a2 a3 az g0 g1 g2 gz
    have a0 := K4.out.cell (j := 0) rfl
    have a1 := K4.out.cell (j := 1) rfl
    have a2 := K4.out.cell (j := 2) rfl
    have a3 := K4.out.cell (j := 3) rfl
    have az := K4.out.lt
    have g0 := G4.out.cell (j := 0) rfl
    have g1 := G4.out.cell (j := 1) rfl
    have g2 := G4.out.cell (j := 2) rfl
    have gz := G4.out.lt
    go_wp2
    go_ret
    exact ⟨rfl, bAlloc B4.out _⟩)
set_option maxRecDepth 8000 in
set_option maxHeartbeats 4000000 in
theorem either_p2 (ao : Option Addr) (n c : Nat) (i j k : Int) (s : ByteArray) (l : List UInt8) (w : World) (f t a b : Nat) (hbig : n ≤ 140737488351232) (HT : Hid (Tx w ao n c l)) (hr : ofr l i j k (opn s) = ⟨f, t, false, false, 0⟩) (hg : rgB l f t false false = true) (hft : f ≤ t) (htn : t ≤ n) (hbn : b ≤ n) (hab : a ≤ b) (hfa : f ≤ a) (hm1 : min i j = (a : Int)) (hm2 : max i j = (b : Int)) (hfe : f = a) (p : Nat) (hbp : b = p + 1) (hsh : shB (opn s) = false) (hbt : t = p) (hk1 : k = 1) (hle : le (at8 l p) = true) :
    Calls Try.prog 7 #[.slice ao n c, .agg #[.int .i64 i, .int .i64 j, .int .i64 k], .string s] w fun e w' => e = .returned (.bool true) ∧ Below w.heap.size w w' := by
  have C1 := Hid.mk' (fun W (h : Below w.heap.size w W) => of_any ao n c i j k s l W (HT.out.keep h))
  have C2 := Hid.mk' (fun W (h : Below w.heap.size w W) => of_any ao n c j i k s l W (HT.out.keep h))
  have C3 := Hid.mk' (fun W (h : Below w.heap.size w W) => take_yes ao n c f t false false l W hbig hg (HT.out.keep h))
  rw [ofr_swap] at C2
  rw [hr] at C1 C2
  unfold rt at C1 C2
  unfold tr at C3
  dsimp only at C1 C2
  have hbI : (n : Int) ≤ 140737488351232 := by omega
  have hft' : (f : Int) ≤ t := by omega
  have htn' : (t : Int) ≤ n := by omega
  have hbn' : (b : Int) ≤ n := by omega
  have hfa' : (f : Int) ≤ a := by omega
  have hab' : (a : Int) ≤ b := by omega
  have hk3 : ¬ k = 3 := by omega
  have s1 : (s.toList == [62]) = false := (op_rules s _ rfl).2.2.2.2.2.2.1.trans (by unfold shB at hsh; exact (Bool.or_eq_false_iff.1 hsh).1)
  have s2 : (s.toList == [60]) = false := (op_rules s _ rfl).2.2.2.2.2.2.2.trans (by unfold shB at hsh; exact (Bool.or_eq_false_iff.1 hsh).2)
  have hk3' : (k == 3) = false := by simpa using hk3
  clear hsh
  have hp1 : (b : Int) - 1 = (p : Int) := by omega
  have hpn : (p : Int) < n := by omega
  have hp0 : (0 : Int) ≤ p := by omega
  have h10 : (((at8 l p).toNat : Int) == 10) = true := hle
  have hb0 : (0 : Int) < b := by omega
  have HP : Hid (p < n) := by unfold Hid; omega
  subst hfe
  subst hbt
  subst hk1
  have hbt' : ¬ (b : Int) ≤ t := by omega
  have hbt2 : (t : Int) < b := by omega
  clear hbp
  clear hr hg
  have G0 := Hid.mk' (Blk.new w 24 #[.int .i64 i, .int .i64 j, .int .i64 1])
  go_enter Try.func7, Try.ntmps7
  go_wp2_with fail
  refine (alive_any _).mono ?_
  rintro e w1 ⟨rfl, hb1⟩
  have B1 := Hid.mk' (bT (bAlloc (Below.refl _ w) (.cells #[.int .i64 i, .int .i64 j, .int .i64 1] 24)) hb1)
  have G1 := Hid.mk' (G0.out.keep hb1)
  clear hb1 G0
  have g0 := G1.out.cell (j := 0) rfl
  have g1 := G1.out.cell (j := 1) rfl
  have g2 := G1.out.cell (j := 2) rfl
  have gz := G1.out.lt
  go_wp2_with fail
  refine (C1.out _ B1.out).mono ?_
  rintro e w2 ⟨rfl, hb2⟩
  have B2 := Hid.mk' (bT B1.out hb2)
  have G2 := Hid.mk' (G1.out.keep hb2)
  have K2 := Hid.mk' (Blk.new w2 27 #[.int .i64 (f : Int), .int .i64 (t : Int), .bool false, .bool false])
  have U2 := Hid.mk' (bAlloc (Below.refl _ w2) (.cells #[.int .i64 (f : Int), .int .i64 (t : Int), .bool false, .bool false] 27))
  clear hb2 G1 g0 g1 g2 gz
  have g0 := G2.out.cell (j := 0) rfl
  have g1 := G2.out.cell (j := 1) rfl
  have g2 := G2.out.cell (j := 2) rfl
  have gz := G2.out.lt
  go_wp2_with fail
  refine (C2.out _ (bT B2.out U2.out)).mono ?_
  rintro e w3 ⟨rfl, hb3⟩
  have B3 := Hid.mk' (bT (bT B2.out U2.out) hb3)
  have K3 := Hid.mk' (K2.out.keep hb3)
  have G3 := Hid.mk' ((G2.out.keep U2.out).keep hb3)
  clear hb3 U2 K2 G2 g0 g1 g2 gz
  have a0 := K3.out.cell (j := 0) rfl
  have a1 := K3.out.cell (j := 1) rfl
  have a2 := K3.out.cell (j := 2) rfl
  have a3 := K3.out.cell (j := 3) rfl
  have az := K3.out.lt
  have g0 := G3.out.cell (j := 0) rfl
  have g1 := G3.out.cell (j := 1) rfl
  have g2 := G3.out.cell (j := 2) rfl
  have gz := G3.out.lt
  go_wp2_with fail
  go_region
  all_goals go_wp2_with fail
  all_goals (
    refine (C3.out _ (bAlloc B3.out _).drew).mono ?_
    rintro e w4 ⟨v, rfl, hown, hb4⟩
    have B4 := Hid.mk' (bT (bAlloc B3.out _).drew hb4)
    have K4 := Hid.mk' ((K3.out.keep (bAlloc (Below.refl _ _) (.cells #[.int .i64 (f : Int), .int .i64 (t : Int), .bool false, .bool false] 27)).drew).keep hb4)
    have G4 := Hid.mk' ((G3.out.keep (bAlloc (Below.refl _ _) (.cells #[.int .i64 (f : Int), .int .i64 (t : Int), .bool false, .bool false] 27)).drew).keep hb4)
    obtain ⟨ax, cx, ev⟩ := own_shape hown
    subst ev
    clear hown hb4 K3 G3 a0 a1 a2 a3 az g0 g1 g2 gz
    have a0 := K4.out.cell (j := 0) rfl
    have a1 := K4.out.cell (j := 1) rfl
    have a2 := K4.out.cell (j := 2) rfl
    have a3 := K4.out.cell (j := 3) rfl
    have az := K4.out.lt
    have g0 := G4.out.cell (j := 0) rfl
    have g1 := G4.out.cell (j := 1) rfl
    have g2 := G4.out.cell (j := 2) rfl
    have gz := G4.out.lt
    obtain ⟨gt, ot, hao, hc⟩ := (HT.out.keep B4.out).at (by have := HP.out; omega)
    subst hao
    have hc0 := hc t (HP.out)
    have hgl : gt < w4.heap.size := lt_of_cell hc0
    have hgn : ¬ gt = w4.heap.size := by omega
    clear hc
    go_wp2
    go_ret
    exact ⟨rfl, bAlloc B4.out _⟩)

theorem extentEither_walk (ao : Option Addr) (n c : Nat) (i j k : Int) (s : ByteArray) (l : List UInt8) (w : World) (hbig : n ≤ 140737488351232) (HT : Hid (Tx w ao n c l)) :
    Calls Try.prog 7 #[.slice ao n c, .agg #[.int .i64 i, .int .i64 j, .int .i64 k], .string s] w fun e w' => e = .returned (.bool true) ∧ Below w.heap.size w w' := by
  have hl := HT.out.len
  rcases ofr_good l i j k (opn s) with hr | ⟨a, b, hm1, hm2, hab, hbn, hg⟩
  · exact either_no ao n c i j k s l w HT hr
  · obtain ⟨R, hR⟩ : ∃ R, ofr l i j k (opn s) = R := ⟨_, rfl⟩
    rw [hR] at hg
    obtain ⟨F, T, L, D, E⟩ := R
    obtain ⟨hE, hrg, hlow, hlin, hpln⟩ := hg
    dsimp only at hE hrg hlow hlin hpln
    subst hE
    obtain ⟨f, t, rfl, rfl, hft, htl⟩ := rg_nat hrg
    cases L with
    | true =>
      by_cases hbt : b ≤ t
      · exact either_l1 ao n c i j k s l w f t a b D hbig HT hR hrg hft (by omega) (by omega) hab (by omega) hm1 hm2 hbt
      · rcases hlin rfl with h | ⟨h0, hle⟩
        · omega
        · exact either_l2 ao n c i j k s l w f t a b D hbig HT hR hrg hft (by omega) (by omega) hab (by omega) hm1 hm2 (b - 1) (by omega) (by omega) hle
    | false =>
      obtain ⟨hk3, hsh, hfa, rfl, hx⟩ := hpln rfl
      rcases hx with ⟨h1, h2⟩ | ⟨h1, h2, h3, h4⟩
      · exact either_p1 ao n c i j k s l w f t a b hbig HT hR hrg hft (by omega) (by omega) hab (by omega) hm1 hm2 (by omega) hk3 hsh (by omega) (by omega)
      · exact either_p2 ao n c i j k s l w f t a b hbig HT hR hrg hft (by omega) (by omega) hab (by omega) hm1 hm2 (by omega) (b - 1) (by omega) hsh (by omega) h4 h3

end Go.Proofs.Ytbknnicpdkpmiaa
