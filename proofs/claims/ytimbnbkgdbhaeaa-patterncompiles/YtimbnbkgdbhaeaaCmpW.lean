/- PatternCompiles, walked. -/
import Derived.Test.YtimbnbkgdbhaeaaTha
import Derived.Test.YtimbnbkgdbhaeaaFromW
namespace Go.Proofs.Ytimbnbkgdbhaeaa
open Go.RowKit
/-- a list of texts in memory -/
def Prow (w : World) (ao : Option Addr) (n : Nat) (A : Nat → Option Addr) (L C : Nat → Nat) (l : Nat → List UInt8) : Prop :=
  ∀ r, r < n → ∃ g o, ao = some ⟨g, o, none⟩ ∧ w.cell? ⟨g, o + r, none⟩ = some (.slice (A r) (L r) (C r)) ∧ Tx w (A r) (L r) (C r) (l r) ∧ L r ≤ 140737488351232
theorem add9 (p q : List UInt8) (h : p.length + q.length ≤ 9223372036854775807) (W : World) : (Op.stringOp .add ⟨p.toArray⟩ ⟨q.toArray⟩).run Try.prog W = .ok (.string ⟨(p ++ q).toArray⟩) W := by
  have e : (⟨p.toArray⟩ : ByteArray) ++ ⟨q.toArray⟩ = ⟨(p ++ q).toArray⟩ := by
    apply ByteArray.ext
    simp
  rw [run_string_add_sum _ _ _ (by simpa [ByteArray.size] using h), e]
theorem app9 (p q : List UInt8) : (⟨p.toArray⟩ : ByteArray) ++ ⟨q.toArray⟩ = ⟨(p ++ q).toArray⟩ := by
  apply ByteArray.ext
  simp
def mk3 : List Value := [.int .u8 42, .int .u8 91]
theorem lent3_tx {w : World} {g cap base n : Nat} {l : List UInt8} (hl : l.length = n) (hb : n ≤ 140737488351232) (h : w.ownsRow base 5 1 (.slice (some ⟨g, 0, none⟩) (n + 2) cap) (n + 2) (bv l ++ mk3)) : Tx w (some ⟨g, 0, none⟩) n cap l ∧ Tx w (some ⟨g, 0, none⟩) (n + 2) cap (l ++ [42, 91]) := by
  have e : bv l ++ mk3 = bv (l ++ [42, 91]) := by rw [show mk3 = bv [42, 91] from rfl]; simp [bv]
  rw [e] at h
  obtain ⟨g', cap', hv, hc1, hc2⟩ := own_some h (by omega)
  injection hv with hv _ hv2
  have hcell : ∀ j, j < n + 2 → w.cell? ⟨g, j, none⟩ = some (.int .u8 ((at8 (l ++ [42, 91]) j).toNat : Int)) := by
    intro j hj
    have h2 := bv_at (l ++ [42, 91]) j (by simp; omega)
    rcases own_srv h with ⟨e, _⟩ | ⟨ad, c, e, hc⟩
    · cases e
    · injection e with e _ _
      injection e with e
      have := hc j _ h2
      rw [← e, add_none, Nat.zero_add] at this
      exact this
  refine ⟨⟨hl, by omega, by omega, fun e => (by cases e), fun a ha j hj => ?_⟩, ⟨by simp [hl], by omega, by omega, fun e => (by cases e), fun a ha j hj => ?_⟩⟩
  · injection ha with ha
    subst ha
    rw [add_none, Nat.zero_add, hcell j (by omega)]
    congr 3
    unfold at8
    rw [List.getD, List.getD, List.getElem?_append_left (by omega)]
  · injection ha with ha
    subst ha
    rw [add_none, Nat.zero_add, hcell j hj]

set_option maxRecDepth 8000 in
set_option maxHeartbeats 8000000 in
theorem patternCompiles_walk (w : World) (ao : Option Addr) (n c : Nat) (A : Nat → Option Addr) (L C : Nat → Nat) (l : Nat → List UInt8) (hnb : n ≤ 140737488351232) (HR : Hid (Prow w ao n A L C l)) :
    Calls Try.prog 3 #[.slice ao n c] w fun e w' => e = .returned (.bool true) ∧ Below w.heap.size w w' := by
  obtain ⟨i0, hi, hz0, hz1, hz2⟩ : ∃ i, Try.prog.info? 5 = some i ∧ i.zero = some (.int .u8 0) ∧ i.size = 1 ∧ i.bytes = 1 := by
    have := info5
    cases h : Try.prog.info? 5 with
    | none => rw [h] at this; cases this
    | some i => rw [h] at this; simp at this; exact ⟨i, rfl, this.1, this.2.1, this.2.2⟩
  go_enter Try.func3, Try.ntmps3
  go_wp2_with (go_at_call 9; refine (alive_any _).mono ?_; rintro e w1 ⟨rfl, hb1⟩; have B1 := Hid.mk' hb1; clear hb1)
  go_loopg [3, 4, 5, 6, 7, 8, 9] n (fun m x3 x4 x5 x6 x7 x8 x9 wx => ∃ i : Nat, x3 = .int .i64 (i : Int) ∧ i + m = n ∧ Hid (Below w.heap.size w wx))
  case atStart => exact ⟨0, rfl, by omega, B1.out⟩
  case round =>
    obtain ⟨i, rfl, him, HB⟩ := hrel
    cases gk with
    | zero =>
      have hin : ¬ ((i : Int) < (n : Int)) := by omega
      go_wp2
      go_ret
      exact ⟨rfl, HB.out⟩
    | succ m =>
      have hin : (i : Int) < (n : Int) := by omega
      have hiB : (i : Int) < 140737488351232 := by omega
      obtain ⟨g, o, e1, hc, hT, hbig⟩ := HR.out i (by omega)
      subst e1
      have dc := keepC HB.out hc
      have HT := Hid.mk' (hT.keep HB.out)
      have HTw := Hid.mk' hT
      obtain ⟨N, hN⟩ : ∃ N, L i = N := ⟨_, rfl⟩
      obtain ⟨A1, hA1⟩ : ∃ N, A i = N := ⟨_, rfl⟩
      obtain ⟨C1, hC1⟩ : ∃ N, C i = N := ⟨_, rfl⟩
      obtain ⟨p, hp⟩ : ∃ N, l i = N := ⟨_, rfl⟩
      rw [hN, hA1, hC1] at dc
      rw [hN, hA1, hC1, hp] at HT HTw
      rw [hN] at hbig
      have hlen := Hid.mk' HT.out.len
      clear hc hT hN hA1 hC1 hp
      have dcA := keepC (bAlloc (Below.refl _ _) (.cells #[] 5)) dc
      go_wp2_with (at_builtin; refine append_srv rfl (.tmp 18) (.tmp 22) 24 rfl wr.heap.size 5 i0 (.int .u8 0) 1 1 Try.underlying24 hi hz0 hz1 hz2 rfl (by decide) (.slice (some ⟨wr.heap.size, 0, none⟩) 0 0) 0 [] rfl (World.ownsRow_made wr #[] 0 (Nat.le_refl _) (Nat.zero_le _) rfl) (.slice A1 N C1) N (bv p) rfl ?qc2 ?qc1 ?qc3 ?qc4 ?qc5 ?qc6 ?_)
      case qc1 => rw [bv_length, hlen.out]; omega
      case qc2 => exact (HT.out.keep (bAlloc (Below.refl _ _) _)).srv
      case qc3 => exact bv_one p
      case qc4 => unfold maxLen; omega
      case qc5 => omega
      case qc6 => simp
      intro v1 w1 hown hgrow _
      have HW1 : Hid (w1.ownsRow wr.heap.size 5 1 v1 N (bv p)) := by unfold Hid; simpa using hown
      have L1 : Hid (Below wr.heap.size wr w1) := ((Below.refl _ wr).alloc (Nat.le_refl _) _).grown hgrow (by simp) (by intro k hk; simp [Value.ownBlock] at hk; omega)
      clear hown hgrow
      go_wp2_with (at_builtin; refine append_srv rfl (.tmp 23) (.tmp 24) 24 rfl wr.heap.size 5 i0 (.int .u8 0) 1 1 Try.underlying24 hi hz0 hz1 hz2 rfl (by decide) v1 N (bv p) rfl (HW1.out.alloc _) (.slice (some ⟨w1.heap.size, 0, none⟩) 2 2) 2 [.int .u8 42, .int .u8 91] rfl (.inr ⟨⟨w1.heap.size, 0, none⟩, 2, rfl, fun k u hk => lit_cells w1 _ 5 k u hk⟩) rfl ?qd3 ?qd4 ?qd5 ?qd6 ?_)
      case qd3 => intro u hu; simp at hu; rcases hu with rfl | rfl <;> rfl
      case qd4 => unfold maxLen; omega
      case qd5 => omega
      case qd6 => have := L1.out.size; simp; omega
      intro v2 w2 hown hgrow _
      have L2 : Hid (Below wr.heap.size wr w2) := (bAlloc L1.out _).grown hgrow (by have := L1.out.size; simp; omega) (fun k hk => (HW1.out.lt k hk).1)
      obtain ⟨g2, cap, rfl, hc1, hc2⟩ := own_some hown (by omega)
      obtain ⟨tA, tB⟩ := lent3_tx hlen.out hbig hown
      have TA := Hid.mk' tA
      have TB := Hid.mk' tB
      have hx0 : (0 : Int) ≤ (N : Int) := by omega
      have hx1 : (N : Int) ≤ (cap : Int) := by omega
      have hx2 : ¬ cap = 0 := by omega
      replace dc := keepC L2.out dc
      clear hown hgrow hc2 tA tB HW1 L1
      have CC := Hid.mk' (compile_any (some ⟨g2, 0, none⟩) N cap p w2 TA)
      go_wp2_with fail
      refine CC.out.mono ?_
      intro e w3 hC
      obtain ⟨hb3, hC⟩ := hC
      have L3 := Hid.mk' (bT L2.out hb3)
      have TB3 := Hid.mk' (TB.out.keep hb3)
      have dc3 := keepC hb3 dc
      clear CC hb3 TB TA dc
      have CR := Hid.mk' (rcompile_any w3 A1 N C1 p (HT.out.keep L3.out))
      obtain ⟨P3, a3, b3, he3, hP3⟩ : ∃ (P3 : Option Addr) (a3 b3 : Int), e = .returned (.tuple #[.pointer P3, .int .i64 a3, .int .i64 b3]) ∧ ((256 < p.length ∧ a3 = 0 ∧ b3 = 1 ∧ P3 = none) ∨ (p.length ≤ 256 ∧ (cmp p).1 ≠ -1 ∧ a3 = (cmp p).1 ∧ b3 = 110 ∧ P3 = none) ∨ (p.length ≤ 256 ∧ (cmp p).1 = -1 ∧ a3 = 0 ∧ b3 = 0 ∧ ∃ q, P3 = some q)) := by
        rcases hC with ⟨h1, rfl⟩ | ⟨h1, h2, rfl⟩ | ⟨h1, h2, _, P, rfl, _⟩
        · exact ⟨none, 0, 1, rfl, .inl ⟨h1, rfl, rfl, rfl⟩⟩
        · exact ⟨none, _, 110, rfl, .inr (.inl ⟨h1, h2, rfl, rfl, rfl⟩)⟩
        · exact ⟨_, 0, 0, rfl, .inr (.inr ⟨h1, h2, rfl, rfl, _, rfl⟩)⟩
      subst he3
      have HP3 := Hid.mk' hP3
      clear hP3 hC
      go_wp2_with fail
      refine CR.out.mono ?_
      rintro e w4 ⟨hb4, a4, b4, rfl, h4⟩
      have L4 := Hid.mk' (bT L3.out hb4)
      have TB4 := Hid.mk' (TB3.out.keep hb4)
      have T4 := Hid.mk' (HT.out.keep L4.out)
      have dc4 := keepC hb4 dc3
      have he : a4 = a3 ∧ b4 = b3 := by
        rcases h4 with ⟨h1, h2, h3⟩ | ⟨h1, h2, h3, h5⟩ | ⟨h1, h2, h3, h5⟩ <;> rcases HP3.out with ⟨g1, g2, g3, _⟩ | ⟨g1, g2, g3, g5, _⟩ | ⟨g1, g2, g3, g5, _⟩
        · exact ⟨by omega, by omega⟩
        · omega
        · omega
        · omega
        · exact ⟨by rw [h3, g3], by omega⟩
        · exact absurd g2 h2
        · omega
        · exact absurd h2 g2
        · exact ⟨by omega, by omega⟩
      obtain ⟨rfl, rfl⟩ := he
      have hpn : (P3 = none ∧ (b4 != 0) = true) ∨ ((∃ q, P3 = some q) ∧ (b4 != 0) = false) := by
        rcases HP3.out with ⟨_, _, g3, g4⟩ | ⟨_, _, _, g3, g4⟩ | ⟨_, _, _, g3, g4⟩
        · exact .inl ⟨g4, by rw [g3]; rfl⟩
        · exact .inl ⟨g4, by rw [g3]; rfl⟩
        · exact .inr ⟨g4, by rw [g3]; rfl⟩
      have cv1 := fun k => conv_tx (TB4.out.keep (bDrewN w4 k))
      have cv2 := fun k => conv_tx (T4.out.keep (bDrewN w4 k))
      have cv10 := conv_tx TB4.out
      have cv20 := conv_tx T4.out
      have hN9 : (N : Int) ≤ 140737488351232 := by omega
      have hadd := add9 p [42, 91] (by have := hlen.out; simp; omega)
      have happ := app9 p [42, 91]
      have hsz1 : ¬ (9223372036854775807 < (⟨p.toArray⟩ : ByteArray).size + 2) := by have := hlen.out; simp [ByteArray.size]; omega
      have hsz2 : ¬ (9223372036854775807 < p.length + 2) := by have := hlen.out; omega
      have hsz3 : ¬ ((9223372036854775807 : Int) < (p.length : Int) + 2) := by have := hlen.out; omega
      have hsz4 : p.length + 2 ≤ 9223372036854775807 := by have := hlen.out; omega
      clear hb4 h4 CR TB3 L3 dc3 HP3
      rcases hpn with ⟨rfl, hb0⟩ | ⟨⟨q, rfl⟩, hb0⟩
      · go_wp2_with fail
        go_quiet (fail)
        go_wp2_with fail
        go_roundg m
        case measure => omega
        case rel => exact ⟨i + 1, by go_num, by omega, bT (bT HB.out L4.out) (bDrewN _ _)⟩
      · go_wp2_with fail
        go_quiet (fail)
        go_wp2_with fail
        go_roundg m
        case measure => omega
        case rel => exact ⟨i + 1, by go_num, by omega, bT (bT HB.out L4.out) (bDrewN _ _)⟩
end Go.Proofs.Ytimbnbkgdbhaeaa
