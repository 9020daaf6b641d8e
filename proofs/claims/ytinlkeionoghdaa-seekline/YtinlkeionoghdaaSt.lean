/- SeekLine walked, for one of the keys. -/
import Derived.Test.YtinlkeionoghdaaBackW
import Derived.BigQuiet
import Derived.Deep.QuietTactic
namespace Go.Proofs.Ytinlkeionoghdaa
open Go.RowKit

set_option maxRecDepth 4000 in
set_option maxHeartbeats 4000000 in
theorem seekLine_2 (ao : Option Addr) (n c : Nat) (i cnt b : Int) (t : Bool) (l : List UInt8) (w : World) (HT : Hid (Tx w ao n c l)) :
    Calls Try.prog 5 #[.agg #[.slice ao n c, .int .i64 i, .int .i64 cnt, .int .u8 116, .int .u8 b, .bool t]] w fun e w' => e = .returned (.bool true) ∧ Below w.heap.size w w' := by
  have hbig : (n : Int) ≤ 140737488355328 := by have := HT.out.big; omega
  have hl := Hid.mk' HT.out.len
  go_enter Try.func5, Try.ntmps5
  go_wp2_with fail
  refine (awake_any _).mono ?_
  rintro e w1 ⟨rfl, hb1⟩
  have c0 : w1.cell? ⟨w.heap.size, 0, none⟩ = some (.slice ao n c) := keepC hb1 (by simp [go_sem])
  have c1 : w1.cell? ⟨w.heap.size, 1, none⟩ = some (.int .i64 i) := keepC hb1 (by simp [go_sem])
  have c2 : w1.cell? ⟨w.heap.size, 2, none⟩ = some (.int .i64 cnt) := keepC hb1 (by simp [go_sem])
  have c3 : w1.cell? ⟨w.heap.size, 3, none⟩ = some (.int .u8 116) := keepC hb1 (by simp [go_sem])
  have c4 : w1.cell? ⟨w.heap.size, 4, none⟩ = some (.int .u8 b) := keepC hb1 (by simp [go_sem])
  have B1 := Hid.mk' (bT (bAlloc (Below.refl _ _) _) hb1)
  clear hb1
  go_wp2_with fail
  refine (move_any ao n c i cnt 116 b l _ (Hid.mk' (HT.out.keep B1.out))).mono ?_
  rintro e w2 ⟨rfl, hb2⟩
  have B2 := Hid.mk' (bT B1.out hb2)
  replace c0 := keepC hb2 c0
  replace c1 := keepC hb2 c1
  replace c2 := keepC hb2 c2
  replace c3 := keepC hb2 c3
  replace c4 := keepC hb2 c4
  have hz := lt_of_cell c1
  clear hb2 B1
  rcases mv_cases l i cnt 116 b with ⟨z, hz', e1⟩ | ⟨p, q, rfl, hp, h0, h1, hk, hh, e1⟩
  · rw [e1, mvE_def]
    have hz1 : (z != 0) = true := by rcases hz' with rfl | rfl <;> rfl
    clear e1 hz'
    dsimp only
    go_wp2
    go_ret
    exact ⟨rfl, bAlloc B2.out _⟩
  · rw [e1, mvE_def]
    dsimp only
    clear e1 hk
    have hh' : hit l b p (max cnt 1).toNat 0 2 = some q := hh
    clear hh
    have hE : en l (bg l p) ≤ l.length := en_le (by have := bg_le l p; omega)
    have hB : bg l p ≤ p := bg_le l p
    have hpE : p ≤ en l (bg l p) := place_en hp
    obtain ⟨m, hm⟩ : ∃ m : Nat, max cnt 1 = (m : Int) := ⟨(max cnt 1).toNat, by omega⟩
    have hm1 : 1 ≤ m := by omega
    have hm9 : m ≤ 9999 := by omega
    rw [show (max cnt 1).toNat = m from by omega] at hh'
    have hq := hit_up (.inr rfl) hh'
    have hlen := hl.out
    obtain ⟨r, hr⟩ : ∃ r : Nat, r = q - 1 := ⟨_, rfl⟩
    have hrI : tov (kq 116) q = (r : Int) := by rw [show kq 116 = 2 from rfl]; simp only [tov, wy, sh]; omega
    rw [hrI, show kd (kq 116) = 2 from rfl]
    have hN := nl_same (l := l) (p := p) (r := r) hp (by omega) (by omega)
    have A1 : Hid (pr (aOf l (p : Int)) = .returned (.tuple #[.int .i64 (nl (l.take p) : Nat), .int .i64 0])) := by
      unfold Hid pr aOf ans; rw [show plB l (p : Int) = true from decide_eq_true (by omega)]; rfl
    have A2 : Hid (pr (aOf l (r : Int)) = .returned (.tuple #[.int .i64 (nl (l.take p) : Nat), .int .i64 0])) := by
      unfold Hid pr aOf ans; rw [show plB l (r : Int) = true from decide_eq_true (by omega), ← hN]; rfl
    generalize nl (l.take p) = L at *
    have HS := Hid.mk' hq.2.2
    have HNth : Hid ((hu (isb l b) (q - (p + 1)) (p + 1)).length = m - 1) := by
      have : (hu (isb l b) (en l (bg l p) - (p + 1 + 0)) (p + 1))[m - 1]? = some q := hh'
      exact hu_nth this
    have hqp : p < q := by omega
    have hqn : q < n := by omega
    have hrq : IntKind.i64.wrap ((r : Int) + 1) = (q : Int) := by rw [IntKind.wrap_i64]; omega
    have hrn : r ≤ n := by omega
    have hpn : p ≤ n := by omega
    clear hh' hE hB hpE hN hq hr hrI hp hlen
    have d0 : (w2.alloc (.cells #[.int .i64 p, .int .i64 r, .int .i64 2] 29)).cell? ⟨w2.heap.size, 0, none⟩ = some (.int .i64 p) := by simp [go_sem]
    have d1 : (w2.alloc (.cells #[.int .i64 p, .int .i64 r, .int .i64 2] 29)).cell? ⟨w2.heap.size, 1, none⟩ = some (.int .i64 r) := by simp [go_sem]
    have d2 : (w2.alloc (.cells #[.int .i64 p, .int .i64 r, .int .i64 2] 29)).cell? ⟨w2.heap.size, 2, none⟩ = some (.int .i64 2) := by simp [go_sem]
    have B3 := Hid.mk' (bAlloc B2.out (.cells #[.int .i64 p, .int .i64 r, .int .i64 2] 29))
    have bb : Below w2.heap.size w2 (w2.alloc (.cells #[.int .i64 p, .int .i64 r, .int .i64 2] 29)) := bAlloc (Below.refl _ _) _
    replace c0 := keepC bb c0
    replace c1 := keepC bb c1
    replace c2 := keepC bb c2
    replace c3 := keepC bb c3
    replace c4 := keepC bb c4
    have hz2 := lt_of_cell d0
    clear B2 bb
    go_upto_region 4 with fail
    generalize w2.alloc (.cells #[.int .i64 p, .int .i64 r, .int .i64 2] 29) = W2 at *
    go_wp2_with fail
    refine (of_any ao n c p l _ (Hid.mk' (HT.out.keep B3.out))).mono ?_
    rintro e w3 ⟨rfl, hb3⟩
    rw [A1.out]
    have B4 := Hid.mk' (bT B3.out hb3)
    replace c0 := keepC hb3 c0
    replace c1 := keepC hb3 c1
    replace c2 := keepC hb3 c2
    replace c3 := keepC hb3 c3
    replace c4 := keepC hb3 c4
    replace d0 := keepC hb3 d0
    replace d1 := keepC hb3 d1
    replace d2 := keepC hb3 d2
    clear hb3 B3 A1
    go_wp2_with fail
    refine (of_any ao n c r l _ (Hid.mk' (HT.out.keep B4.out))).mono ?_
    rintro e w4 ⟨rfl, hb4⟩
    rw [A2.out]
    have B5 := Hid.mk' (bT B4.out hb4)
    replace c0 := keepC hb4 c0
    replace c1 := keepC hb4 c1
    replace c2 := keepC hb4 c2
    replace c3 := keepC hb4 c3
    replace c4 := keepC hb4 c4
    replace d0 := keepC hb4 d0
    replace d1 := keepC hb4 d1
    replace d2 := keepC hb4 d2
    clear hb4 B4 A2 hz hz2
    have hp1 : IntKind.i64.wrap ((p : Int) + 1) = ((p + 1 : Nat) : Int) := by rw [IntKind.wrap_i64]; omega
    have hp1' : (p : Int) + 1 ≤ 140737488355329 := by omega
    go_wp2
    go_loopg [11, 12] (q - (p + 1)) (fun g x11 x12 wx => ∃ j v : Nat, x12 = .int .i64 j ∧ x11 = .int .i64 v ∧ j + g = q ∧ p < j ∧ v ≤ n ∧ Hid ((hu (isb l b) (j - (p + 1)) (p + 1)).length = v) ∧ Hid (Below w4.heap.size w4 wx))
    case atStart => exact ⟨p + 1, 0, by go_num, rfl, by omega, by omega, by omega, by rw [Nat.sub_self]; rfl, Below.refl _ _⟩
    case round =>
      obtain ⟨j, v, rfl, rfl, hjg, hjp, hvn, HV, HB⟩ := hrel
      rename_i wx
      have HBx := Hid.mk' (bT B5.out HB.out)
      have T := Hid.mk' (HT.out.keep HBx.out)
      have c0' := keepC HB.out c0
      have c2' := keepC HB.out c2
      have c4' := keepC HB.out c4
      have d2' := keepC HB.out d2
      clear c0 c1 c2 c3 c4 d0 d1 d2
      have hj0 : (0 : Int) ≤ (j : Int) := by omega
      have hjn : (j : Int) < (n : Int) := by omega
      have hjb : (j : Int) ≤ 140737488355328 := by omega
      obtain ⟨gg, o, rfl, hcl⟩ := T.out.at (by omega)
      have hcj := hcl j (by omega)
      clear hcl
      cases gk with
      | zero =>
        obtain rfl : j = q := by omega
        have hs' : (((at8 l j).toNat : Int) == b) = true := HS.out
        have hv1 : (((v : Int) + 1) == (m : Int)) = true := by
          have e1 := HV.out
          have e2 := HNth.out
          rw [e1] at e2
          simp; omega
        have hvb : (v : Int) ≤ 140737488355328 := by omega
        have hjj : ((j : Int) == (j : Int)) = true := by simp
        go_wp2
        go_quiet (fail)
        go_wp2
        go_quiet (fail)
        go_wp2
        go_ret
        exact ⟨rfl, bT HBx.out (bT (bdr _ _) (bdr _ _))⟩
      | succ g =>
        have hjj : ((j : Int) == (q : Int)) = false := by simp; omega
        have hvb : (v : Int) ≤ 140737488355328 := by omega
        cases hs : isb l b j with
        | true =>
          have hs' : (((at8 l j).toNat : Int) == b) = true := hs
          have HV2 : Hid ((hu (isb l b) (j + 1 - (p + 1)) (p + 1)).length = v + 1) := by
            have := HV.out
            unfold Hid
            rw [show j + 1 - (p + 1) = (j - (p + 1)) + 1 from by omega, hu_more (by rw [show p + 1 + (j - (p + 1)) = j from by omega]; exact hs), this]
          have hvn' : v + 1 ≤ n := by
            have h1 := HV2.out
            have h2 := hu_len (isb l b) (j + 1 - (p + 1)) (p + 1)
            omega
          clear hs
          go_wp2
          go_quiet (fail)
          go_wp2
          go_roundg g
          case measure => omega
          case rel => exact ⟨j + 1, v + 1, by go_num, by go_num, by omega, by omega, hvn', HV2.out, bT HB.out (bdr _ _)⟩
        | false =>
          have hs' : (((at8 l j).toNat : Int) == b) = false := hs
          have HV2 : Hid ((hu (isb l b) (j + 1 - (p + 1)) (p + 1)).length = v) := by
            have := HV.out
            unfold Hid
            rw [show j + 1 - (p + 1) = (j - (p + 1)) + 1 from by omega, hu_less (by rw [show p + 1 + (j - (p + 1)) = j from by omega]; exact hs), this]
          clear hs
          go_wp2
          go_quiet (fail)
          go_wp2
          go_roundg g
          case measure => omega
          case rel => exact ⟨j + 1, v, by go_num, rfl, by omega, by omega, hvn, HV2.out, bT HB.out (bdr _ _)⟩
end Go.Proofs.Ytinlkeionoghdaa
