/- The reference's set. -/
import Derived.Test.YtaakgoojcogbcaaXj
namespace Go.Proofs.Ytaakgoojcogbcaa
open Go.RowKit
/-- what the reference's set answers -/
def RsetP (p : List UInt8) (i : Nat) (w : World) (e : Ending) (w' : World) : Prop :=
  Below w.heap.size w w' ∧ ∃ f : Nat → Bool, e = .returned (.tuple #[.agg (sv f), .int .i64 (if (sR p i).1 = p.length then (p.length : Int) else ((sR p i).1 : Int) + 1), .int .i64 (if (sR p i).1 = p.length then (i : Int) else (sR p i).2.2)]) ∧ ((sR p i).1 ≠ p.length → f = if ngd p i then fun x => !(sR p i).2.1 x else (sR p i).2.1)
/-- the first j truths turned -/
def nb (f : Nat → Bool) (j x : Nat) : Bool := if x < j then !f x else f x

set_option maxRecDepth 8000 in
set_option maxHeartbeats 16000000 in
theorem rset_any (w : World) (ao : Option Addr) (n c i : Nat) (p : List UInt8) (hin : i < n) (hn : p.length = n) (hn2 : n ≤ 256) (HT : Hid (Tx w ao n c p)) :
    Calls Try.prog 61 #[.slice ao n c, .int .i64 ((i : Int) + 1)] w fun e w' => RsetP p i w e w' := by
  obtain ⟨g, o, e1, hcW⟩ := HT.out.at (by omega)
  subst e1
  have HCW : Hid (∀ j, j < n → w.cell? ⟨g, o + j, none⟩ = some (.int .u8 (bn p j : Int))) := hcW
  clear hcW
  have hz := z74
  have H1 := Hid.mk' ((Blk.new w 104 (sv fun _ => false)).keep (bAlloc (Below.refl _ _) (.cells (sv fun _ => false) 104)))
  have H2 : Hid (Blk ((w.alloc (.cells (sv fun _ => false) 104)).alloc (.cells (sv fun _ => false) 104)) (w.heap.size + 1) 104 (sv fun _ => false)) := by
    have := Blk.new (w.alloc (.cells (sv fun _ => false) 104)) 104 (sv fun _ => false)
    simpa [Hid] using this
  have B0 := Hid.mk' (bAlloc (bAlloc (Below.refl w.heap.size w) (.cells (sv fun _ => false) 104)) (.cells (sv fun _ => false) 104))
  generalize hSV : sv (fun _ => false) = SV at *
  have HSV := Hid.mk' hSV
  clear hSV
  have hend := sR_end (p := p) (i := i) (by omega)
  obtain ⟨⟨E, S, F⟩, HR⟩ : ∃ r, Hid (sR p i = r) := ⟨_, rfl⟩
  rw [HR.out] at hend
  dsimp only at hend
  have HPost : Hid (∀ (e : Ending) (w' : World) (f : Nat → Bool), Below w.heap.size w w' → e = .returned (.tuple #[.agg (sv f), .int .i64 (if E = n then (n : Int) else (E : Int) + 1), .int .i64 (if E = n then (i : Int) else F)]) → (E ≠ n → f = if ngd p i then fun x => !S x else S) → RsetP p i w e w') := by
    intro e w' f h1 h2 h3
    unfold RsetP
    rw [HR.out, hn]
    exact ⟨h1, f, h2, h3⟩
  have hi1 : ((i : Int) + 1).toNat = i + 1 := by omega
  cases hg : ngd p i with
  | true =>
    have h := hg
    unfold ngd at h
    simp at h
    have hfl : i + 1 < n := by omega
    have hf : fst1 p i = i + 2 := by unfold fst1; rw [hg]; rfl
    have HS : Hid (sl p (i + 2) n (i + 2) (fun _ => false) (-1) = (E, S, F)) := by have := HR.out; unfold sR at this; rw [hf, hn] at this; exact this
    have HNG := Hid.mk' hg
    have cx := HCW.out (i + 1) hfl
    rw [h.2] at cx
    have cx2 := keepC B0.out cx
    have hfl' : (i : Int) + 1 < (n : Int) := by omega
    clear h hg hf
    go_enter Try.func61, Try.ntmps61
    go_wp2_with fail
    go_loopg [1, 11, 12, 13, 14, 15] n (fun m x1 x11 x12 x13 x14 x15 wx => ∃ (j : Nat) (s : Nat → Bool) (f : Int), x1 = .int .i64 (j : Int) ∧ x11 = .int .i64 f ∧ (i + 2) ≤ j ∧ j ≤ n ∧ n ≤ m + j ∧ (f = -1 ∨ 0 ≤ f ∧ f ≤ 256) ∧ Hid (Below w.heap.size w wx) ∧ Hid (Blk wx w.heap.size 104 (sv fun _ => false)) ∧ Hid (Blk wx (w.heap.size + 1) 104 (sv s)) ∧ Hid (sl p (i + 2) m j s f = (E, S, F)))
    case atStart =>
      refine ⟨(i + 2), fun _ => false, -1, by go_num, rfl, Nat.le_refl _, by omega, by omega, .inl rfl, B0.out, by rw [HSV.out]; exact H1.out, by rw [HSV.out]; exact H2.out, HS.out⟩
    case round =>
      obtain ⟨j, s, f, rfl, rfl, hj1, hj2, hj3, hf3, HB, K1, K2, HL⟩ := hrel
      have HC : Hid (∀ j, j < n → wr.cell? ⟨g, o + j, none⟩ = some (.int .u8 (bn p j : Int))) := fun q hq => keepC HB.out (HCW.out q hq)
      by_cases hjn : j < n
      · have hjn' : (j : Int) < (n : Int) := by omega
        have dx := HC.out j hjn
        by_cases h93 : bn p j = 93
        · by_cases hjf : j = (i + 2)
          · have hcond : j < p.length ∧ (j = (i + 2) ∨ bn p j ≠ 93) := ⟨by omega, .inl hjf⟩
            have hjf' : ((j : Int) == ((i : Int) + 1 + 1)) = true := by simp; omega
            clear hjf
            have hlt := bn_lt p j
            obtain ⟨m, hm⟩ : ∃ m, gk = m + 1 := ⟨gk - 1, by omega⟩
            subst hm
            have hsl := HL.out
            rw [sl_go hcond] at hsl
            clear HL hcond
            obtain ⟨lo, HLO⟩ : ∃ y, Hid (bn p j = y) := ⟨_, rfl⟩
            rw [HLO.out] at dx hlt h93
            have h93' : ((lo : Int) != 93) = false := by simp; omega
            clear h93
            go_wp2_with fail
            go_quiet (fail)
            have HB7 := Hid.mk' (bT HB.out (bDrewN _ nq))
            have K17 := Hid.mk' (K1.out.keep (bDrewN _ nq))
            have K27 := Hid.mk' (K2.out.keep (bDrewN _ nq))
            have HC5 : Hid (∀ j, j < n → (wr.drewN nq).cell? ⟨g, o + j, none⟩ = some (.int .u8 (bn p j : Int))) := fun q hq => keepC HB7.out (HCW.out q hq)
            clear HB K1 K2 HC dx
            generalize wr.drewN nq = w5 at *
            have HB := HB7
            have K1 := K17
            have K2 := K27
            clear HB7 K17 K27
            by_cases h2 : j + 2 < n
            · have h2' : (j : Int) + 2 < (n : Int) := by omega
              have d1 := HC5.out (j + 1) (by omega)
              have d2 := HC5.out (j + 2) (by omega)
              obtain ⟨y1, HY1⟩ : ∃ y, Hid (bn p (j + 1) = y) := ⟨_, rfl⟩
              have hlt2 := bn_lt p (j + 2)
              obtain ⟨hi, HY2⟩ : ∃ y, Hid (bn p (j + 2) = y) := ⟨_, rfl⟩
              rw [HY1.out] at d1
              rw [HY2.out] at d2 hlt2
              have t1 : ((j : Int) + 1).toNat = j + 1 := by omega
              have t2 : ((j : Int) + 2).toNat = j + 2 := by omega
              have t3 : (j : Int) + 1 < (n : Int) := by omega
              by_cases k1 : y1 = 45
              · have k1' : ((y1 : Int) == 45) = true := by simp; omega
                by_cases k2 : hi = 93
                · have k2' : ((hi : Int) != 93) = false := by simp; omega
                  have HI : Hid (itm p j = (lo, lo, 1)) := by unfold Hid itm; rw [if_neg (by rw [HY2.out]; omega), HLO.out]
                  rw [HI.out] at hsl
                  dsimp only at hsl
                  have HSL := Hid.mk' hsl
                  clear hsl HI
                  clear k1 k2
                  have hlh' : ¬ ((lo : Int) < (lo : Int)) := by omega
                  have hlh2 : decide ((lo : Int) < (lo : Int)) = false := decide_eq_false hlh'
                  go_wp2_with fail
                  go_loopg [15] (lo + 1 - lo) (fun q x15 wx => ∃ cc : Nat, x15 = .int .i64 (cc : Int) ∧ lo ≤ cc ∧ q = lo + 1 - cc ∧ (cc ≤ lo + 1 ∨ cc = lo) ∧ cc ≤ 256 ∧ Hid (Below w.heap.size w wx) ∧ Hid (Blk wx w.heap.size 104 (sv fun _ => false)) ∧ Hid (Blk wx (w.heap.size + 1) 104 (sv fun x => s x || (decide (lo ≤ x) && decide (x < cc)))))
                  case atStart =>
                    refine ⟨lo, rfl, Nat.le_refl _, rfl, .inr rfl, by omega, HB.out, K1.out, ?_⟩
                    rw [show (fun x => s x || (decide (lo ≤ x) && decide (x < lo))) = s by
                      funext x
                      by_cases hx : lo ≤ x
                      · have : ¬ x < lo := by omega
                        simp [this]
                      · simp [hx]]
                    exact K2.out
                  case round =>
                    obtain ⟨cc, rfl, hc1, hq, hc2, hc3, HB5, K15, K25⟩ := hrel
                    by_cases hch : cc ≤ lo
                    · have hch' : (cc : Int) ≤ (lo : Int) := by omega
                      have hcn : (cc : Int) < 256 := by omega
                      obtain ⟨q, rfl⟩ : ∃ q, gk = q + 1 := ⟨gk - 1, by omega⟩
                      have c5 := K25.out.at74 (k := cc) (by omega)
                      have z5 := K25.out.frozen cc
                      go_wp2
                      go_roundg q
                      case measure => omega
                      case rel =>
                        refine ⟨cc + 1, by go_num, by omega, by omega, by omega, by omega, HB5.out.setCell (by show w.heap.size ≤ w.heap.size + 1; omega) _, K15.out.off (by omega) _, ?_⟩
                        have h9 := K25.out.set74 cc true
                        rw [show (fun x => if x = cc then true else (s x || (decide (lo ≤ x) && decide (x < cc)))) = fun x => s x || (decide (lo ≤ x) && decide (x < cc + 1)) by
                          funext x
                          by_cases e : x = cc
                          · subst e; simp; omega
                          · rw [if_neg e]
                            have e1 : decide (x < cc + 1) = decide (x < cc) := by apply decide_eq_decide.2; omega
                            rw [e1]] at h9
                        exact h9
                    · have hch' : ¬ ((cc : Int) ≤ (lo : Int)) := by omega
                      have HE : Hid ((fun x => s x || (decide (lo ≤ x) && decide (x < cc))) = fun x => s x || (decide (lo ≤ x) && decide (x ≤ lo))) := by
                        unfold Hid; funext x
                        by_cases hx : lo ≤ x
                        · have : decide (x < cc) = decide (x ≤ lo) := by apply decide_eq_decide.2; omega
                          rw [this]
                        · simp [hx]
                      have K26 := K25.out
                      rw [HE.out] at K26
                      have K27 := Hid.mk' K26
                      clear K26 K25 HE
                      go_wp2
                      go_roundg m
                      case measure => omega
                      case rel => exact ⟨j + 1, _, f, by go_num, rfl, by omega, by omega, by omega, by omega, HB5.out, K15.out, K27.out, by have := HSL.out; rw [if_neg (fun h => Nat.lt_irrefl _ h.1)] at this; exact this⟩
                · have k2' : ((hi : Int) != 93) = true := by simp; omega
                  have HI : Hid (itm p j = (lo, hi, 3)) := by unfold Hid itm; rw [if_pos (by rw [HY1.out, HY2.out]; omega), HLO.out, HY2.out]
                  rw [HI.out] at hsl
                  dsimp only at hsl
                  have HSL := Hid.mk' hsl
                  clear hsl HI k1
                  by_cases hlh : hi < lo
                  · have hlh' : (hi : Int) < (lo : Int) := by omega
                    by_cases hf : f = -1
                    · subst hf
                      go_wp2_with fail
                      go_loopg [15] (hi + 1 - lo) (fun q x15 wx => ∃ cc : Nat, x15 = .int .i64 (cc : Int) ∧ lo ≤ cc ∧ q = hi + 1 - cc ∧ (cc ≤ hi + 1 ∨ cc = lo) ∧ cc ≤ 256 ∧ Hid (Below w.heap.size w wx) ∧ Hid (Blk wx w.heap.size 104 (sv fun _ => false)) ∧ Hid (Blk wx (w.heap.size + 1) 104 (sv fun x => s x || (decide (lo ≤ x) && decide (x < cc)))))
                      case atStart =>
                        refine ⟨lo, rfl, Nat.le_refl _, rfl, .inr rfl, by omega, HB.out, K1.out, ?_⟩
                        rw [show (fun x => s x || (decide (lo ≤ x) && decide (x < lo))) = s by
                          funext x
                          by_cases hx : lo ≤ x
                          · have : ¬ x < lo := by omega
                            simp [this]
                          · simp [hx]]
                        exact K2.out
                      case round =>
                        obtain ⟨cc, rfl, hc1, hq, hc2, hc3, HB5, K15, K25⟩ := hrel
                        by_cases hch : cc ≤ hi
                        · omega
                        · have hch' : ¬ ((cc : Int) ≤ (hi : Int)) := by omega
                          have HE : Hid ((fun x => s x || (decide (lo ≤ x) && decide (x < cc))) = fun x => s x || (decide (lo ≤ x) && decide (x ≤ hi))) := by
                            unfold Hid; funext x
                            by_cases hx : lo ≤ x
                            · have : decide (x < cc) = decide (x ≤ hi) := by apply decide_eq_decide.2; omega
                              rw [this]
                            · simp [hx]
                          have K26 := K25.out
                          rw [HE.out] at K26
                          have K27 := Hid.mk' K26
                          clear K26 K25 HE
                          go_wp2
                          go_roundg m
                          case measure => omega
                          case rel => exact ⟨j + 3, _, (j : Int), by go_num, rfl, by omega, by omega, by omega, by omega, HB5.out, K15.out, K27.out, by have := HSL.out; rw [if_pos ⟨hlh, by first | rfl | trivial⟩] at this; exact this⟩
                    · have hf0 : ¬ (f < 0) := by omega
                      have hf1 : decide (f < 0) = false := decide_eq_false hf0
                      go_wp2_with fail
                      go_loopg [15] (hi + 1 - lo) (fun q x15 wx => ∃ cc : Nat, x15 = .int .i64 (cc : Int) ∧ lo ≤ cc ∧ q = hi + 1 - cc ∧ (cc ≤ hi + 1 ∨ cc = lo) ∧ cc ≤ 256 ∧ Hid (Below w.heap.size w wx) ∧ Hid (Blk wx w.heap.size 104 (sv fun _ => false)) ∧ Hid (Blk wx (w.heap.size + 1) 104 (sv fun x => s x || (decide (lo ≤ x) && decide (x < cc)))))
                      case atStart =>
                        refine ⟨lo, rfl, Nat.le_refl _, rfl, .inr rfl, by omega, HB.out, K1.out, ?_⟩
                        rw [show (fun x => s x || (decide (lo ≤ x) && decide (x < lo))) = s by
                          funext x
                          by_cases hx : lo ≤ x
                          · have : ¬ x < lo := by omega
                            simp [this]
                          · simp [hx]]
                        exact K2.out
                      case round =>
                        obtain ⟨cc, rfl, hc1, hq, hc2, hc3, HB5, K15, K25⟩ := hrel
                        by_cases hch : cc ≤ hi
                        · omega
                        · have hch' : ¬ ((cc : Int) ≤ (hi : Int)) := by omega
                          have HE : Hid ((fun x => s x || (decide (lo ≤ x) && decide (x < cc))) = fun x => s x || (decide (lo ≤ x) && decide (x ≤ hi))) := by
                            unfold Hid; funext x
                            by_cases hx : lo ≤ x
                            · have : decide (x < cc) = decide (x ≤ hi) := by apply decide_eq_decide.2; omega
                              rw [this]
                            · simp [hx]
                          have K26 := K25.out
                          rw [HE.out] at K26
                          have K27 := Hid.mk' K26
                          clear K26 K25 HE
                          go_wp2
                          go_roundg m
                          case measure => omega
                          case rel => exact ⟨j + 3, _, f, by go_num, rfl, by omega, by omega, by omega, by omega, HB5.out, K15.out, K27.out, by have := HSL.out; rw [if_neg (fun h => hf h.2)] at this; exact this⟩
                  · have hlh' : ¬ ((hi : Int) < (lo : Int)) := by omega
                    have hlh2 : decide ((hi : Int) < (lo : Int)) = false := decide_eq_false hlh'
                    go_wp2_with fail
                    go_loopg [15] (hi + 1 - lo) (fun q x15 wx => ∃ cc : Nat, x15 = .int .i64 (cc : Int) ∧ lo ≤ cc ∧ q = hi + 1 - cc ∧ (cc ≤ hi + 1 ∨ cc = lo) ∧ cc ≤ 256 ∧ Hid (Below w.heap.size w wx) ∧ Hid (Blk wx w.heap.size 104 (sv fun _ => false)) ∧ Hid (Blk wx (w.heap.size + 1) 104 (sv fun x => s x || (decide (lo ≤ x) && decide (x < cc)))))
                    case atStart =>
                      refine ⟨lo, rfl, Nat.le_refl _, rfl, .inr rfl, by omega, HB.out, K1.out, ?_⟩
                      rw [show (fun x => s x || (decide (lo ≤ x) && decide (x < lo))) = s by
                        funext x
                        by_cases hx : lo ≤ x
                        · have : ¬ x < lo := by omega
                          simp [this]
                        · simp [hx]]
                      exact K2.out
                    case round =>
                      obtain ⟨cc, rfl, hc1, hq, hc2, hc3, HB5, K15, K25⟩ := hrel
                      by_cases hch : cc ≤ hi
                      · have hch' : (cc : Int) ≤ (hi : Int) := by omega
                        have hcn : (cc : Int) < 256 := by omega
                        obtain ⟨q, rfl⟩ : ∃ q, gk = q + 1 := ⟨gk - 1, by omega⟩
                        have c5 := K25.out.at74 (k := cc) (by omega)
                        have z5 := K25.out.frozen cc
                        go_wp2
                        go_roundg q
                        case measure => omega
                        case rel =>
                          refine ⟨cc + 1, by go_num, by omega, by omega, by omega, by omega, HB5.out.setCell (by show w.heap.size ≤ w.heap.size + 1; omega) _, K15.out.off (by omega) _, ?_⟩
                          have h9 := K25.out.set74 cc true
                          rw [show (fun x => if x = cc then true else (s x || (decide (lo ≤ x) && decide (x < cc)))) = fun x => s x || (decide (lo ≤ x) && decide (x < cc + 1)) by
                            funext x
                            by_cases e : x = cc
                            · subst e; simp; omega
                            · rw [if_neg e]
                              have e1 : decide (x < cc + 1) = decide (x < cc) := by apply decide_eq_decide.2; omega
                              rw [e1]] at h9
                          exact h9
                      · have hch' : ¬ ((cc : Int) ≤ (hi : Int)) := by omega
                        have HE : Hid ((fun x => s x || (decide (lo ≤ x) && decide (x < cc))) = fun x => s x || (decide (lo ≤ x) && decide (x ≤ hi))) := by
                          unfold Hid; funext x
                          by_cases hx : lo ≤ x
                          · have : decide (x < cc) = decide (x ≤ hi) := by apply decide_eq_decide.2; omega
                            rw [this]
                          · simp [hx]
                        have K26 := K25.out
                        rw [HE.out] at K26
                        have K27 := Hid.mk' K26
                        clear K26 K25 HE
                        go_wp2
                        go_roundg m
                        case measure => omega
                        case rel => exact ⟨j + 3, _, f, by go_num, rfl, by omega, by omega, by omega, by omega, HB5.out, K15.out, K27.out, by have := HSL.out; rw [if_neg (fun h => hlh h.1)] at this; exact this⟩
              · have k1' : ((y1 : Int) == 45) = false := by simp; omega
                have HI : Hid (itm p j = (lo, lo, 1)) := by unfold Hid itm; rw [if_neg (by rw [HY1.out]; omega), HLO.out]
                rw [HI.out] at hsl
                dsimp only at hsl
                have HSL := Hid.mk' hsl
                clear hsl HI
                have hlh' : ¬ ((lo : Int) < (lo : Int)) := by omega
                have hlh2 : decide ((lo : Int) < (lo : Int)) = false := decide_eq_false hlh'
                go_wp2_with fail
                go_loopg [15] (lo + 1 - lo) (fun q x15 wx => ∃ cc : Nat, x15 = .int .i64 (cc : Int) ∧ lo ≤ cc ∧ q = lo + 1 - cc ∧ (cc ≤ lo + 1 ∨ cc = lo) ∧ cc ≤ 256 ∧ Hid (Below w.heap.size w wx) ∧ Hid (Blk wx w.heap.size 104 (sv fun _ => false)) ∧ Hid (Blk wx (w.heap.size + 1) 104 (sv fun x => s x || (decide (lo ≤ x) && decide (x < cc)))))
                case atStart =>
                  refine ⟨lo, rfl, Nat.le_refl _, rfl, .inr rfl, by omega, HB.out, K1.out, ?_⟩
                  rw [show (fun x => s x || (decide (lo ≤ x) && decide (x < lo))) = s by
                    funext x
                    by_cases hx : lo ≤ x
                    · have : ¬ x < lo := by omega
                      simp [this]
                    · simp [hx]]
                  exact K2.out
                case round =>
                  obtain ⟨cc, rfl, hc1, hq, hc2, hc3, HB5, K15, K25⟩ := hrel
                  by_cases hch : cc ≤ lo
                  · have hch' : (cc : Int) ≤ (lo : Int) := by omega
                    have hcn : (cc : Int) < 256 := by omega
                    obtain ⟨q, rfl⟩ : ∃ q, gk = q + 1 := ⟨gk - 1, by omega⟩
                    have c5 := K25.out.at74 (k := cc) (by omega)
                    have z5 := K25.out.frozen cc
                    go_wp2
                    go_roundg q
                    case measure => omega
                    case rel =>
                      refine ⟨cc + 1, by go_num, by omega, by omega, by omega, by omega, HB5.out.setCell (by show w.heap.size ≤ w.heap.size + 1; omega) _, K15.out.off (by omega) _, ?_⟩
                      have h9 := K25.out.set74 cc true
                      rw [show (fun x => if x = cc then true else (s x || (decide (lo ≤ x) && decide (x < cc)))) = fun x => s x || (decide (lo ≤ x) && decide (x < cc + 1)) by
                        funext x
                        by_cases e : x = cc
                        · subst e; simp; omega
                        · rw [if_neg e]
                          have e1 : decide (x < cc + 1) = decide (x < cc) := by apply decide_eq_decide.2; omega
                          rw [e1]] at h9
                      exact h9
                  · have hch' : ¬ ((cc : Int) ≤ (lo : Int)) := by omega
                    have HE : Hid ((fun x => s x || (decide (lo ≤ x) && decide (x < cc))) = fun x => s x || (decide (lo ≤ x) && decide (x ≤ lo))) := by
                      unfold Hid; funext x
                      by_cases hx : lo ≤ x
                      · have : decide (x < cc) = decide (x ≤ lo) := by apply decide_eq_decide.2; omega
                        rw [this]
                      · simp [hx]
                    have K26 := K25.out
                    rw [HE.out] at K26
                    have K27 := Hid.mk' K26
                    clear K26 K25 HE
                    go_wp2
                    go_roundg m
                    case measure => omega
                    case rel => exact ⟨j + 1, _, f, by go_num, rfl, by omega, by omega, by omega, by omega, HB5.out, K15.out, K27.out, by have := HSL.out; rw [if_neg (fun h => Nat.lt_irrefl _ h.1)] at this; exact this⟩
            · have h2' : ¬ ((j : Int) + 2 < (n : Int)) := by omega
              have h2d : decide ((j : Int) + 2 < (n : Int)) = false := decide_eq_false h2'
              have HI : Hid (itm p j = (lo, lo, 1)) := by unfold Hid itm; rw [if_neg (by omega), HLO.out]
              rw [HI.out] at hsl
              dsimp only at hsl
              have HSL := Hid.mk' hsl
              clear hsl HI
              have hlh' : ¬ ((lo : Int) < (lo : Int)) := by omega
              have hlh2 : decide ((lo : Int) < (lo : Int)) = false := decide_eq_false hlh'
              go_wp2_with fail
              go_loopg [15] (lo + 1 - lo) (fun q x15 wx => ∃ cc : Nat, x15 = .int .i64 (cc : Int) ∧ lo ≤ cc ∧ q = lo + 1 - cc ∧ (cc ≤ lo + 1 ∨ cc = lo) ∧ cc ≤ 256 ∧ Hid (Below w.heap.size w wx) ∧ Hid (Blk wx w.heap.size 104 (sv fun _ => false)) ∧ Hid (Blk wx (w.heap.size + 1) 104 (sv fun x => s x || (decide (lo ≤ x) && decide (x < cc)))))
              case atStart =>
                refine ⟨lo, rfl, Nat.le_refl _, rfl, .inr rfl, by omega, HB.out, K1.out, ?_⟩
                rw [show (fun x => s x || (decide (lo ≤ x) && decide (x < lo))) = s by
                  funext x
                  by_cases hx : lo ≤ x
                  · have : ¬ x < lo := by omega
                    simp [this]
                  · simp [hx]]
                exact K2.out
              case round =>
                obtain ⟨cc, rfl, hc1, hq, hc2, hc3, HB5, K15, K25⟩ := hrel
                by_cases hch : cc ≤ lo
                · have hch' : (cc : Int) ≤ (lo : Int) := by omega
                  have hcn : (cc : Int) < 256 := by omega
                  obtain ⟨q, rfl⟩ : ∃ q, gk = q + 1 := ⟨gk - 1, by omega⟩
                  have c5 := K25.out.at74 (k := cc) (by omega)
                  have z5 := K25.out.frozen cc
                  go_wp2
                  go_roundg q
                  case measure => omega
                  case rel =>
                    refine ⟨cc + 1, by go_num, by omega, by omega, by omega, by omega, HB5.out.setCell (by show w.heap.size ≤ w.heap.size + 1; omega) _, K15.out.off (by omega) _, ?_⟩
                    have h9 := K25.out.set74 cc true
                    rw [show (fun x => if x = cc then true else (s x || (decide (lo ≤ x) && decide (x < cc)))) = fun x => s x || (decide (lo ≤ x) && decide (x < cc + 1)) by
                      funext x
                      by_cases e : x = cc
                      · subst e; simp; omega
                      · rw [if_neg e]
                        have e1 : decide (x < cc + 1) = decide (x < cc) := by apply decide_eq_decide.2; omega
                        rw [e1]] at h9
                    exact h9
                · have hch' : ¬ ((cc : Int) ≤ (lo : Int)) := by omega
                  have HE : Hid ((fun x => s x || (decide (lo ≤ x) && decide (x < cc))) = fun x => s x || (decide (lo ≤ x) && decide (x ≤ lo))) := by
                    unfold Hid; funext x
                    by_cases hx : lo ≤ x
                    · have : decide (x < cc) = decide (x ≤ lo) := by apply decide_eq_decide.2; omega
                      rw [this]
                    · simp [hx]
                  have K26 := K25.out
                  rw [HE.out] at K26
                  have K27 := Hid.mk' K26
                  clear K26 K25 HE
                  go_wp2
                  go_roundg m
                  case measure => omega
                  case rel => exact ⟨j + 1, _, f, by go_num, rfl, by omega, by omega, by omega, by omega, HB5.out, K15.out, K27.out, by have := HSL.out; rw [if_neg (fun h => Nat.lt_irrefl _ h.1)] at this; exact this⟩
          · have hjf' : ((j : Int) == ((i : Int) + 1 + 1)) = false := by simp; omega
            have hcond : ¬ (j < p.length ∧ (j = (i + 2) ∨ bn p j ≠ 93)) := by rintro ⟨_, h | h⟩; exact hjf h; exact h h93
            rw [h93] at dx
            clear h93
            have he := HL.out
            rw [sl_stop hcond] at he
            injection he with he1 he2
            injection he2 with he2 he3
            subst he1 he2 he3
            clear HL
            have hen : j ≠ n := by omega
            have hge : ¬ ((n : Int) ≤ (j : Int)) := by omega
            go_wp2_with fail
            go_loopg [16] 256 (fun q x16 wx => ∃ cc : Nat, x16 = .int .i64 (cc : Int) ∧ cc + q = 256 ∧ Hid (Below w.heap.size w wx) ∧ Hid (Blk wx w.heap.size 104 (sv fun _ => false)) ∧ Hid (Blk wx (w.heap.size + 1) 104 (sv (nb s cc))))
            case atStart => exact ⟨0, rfl, rfl, HB.out, K1.out, by rw [show nb s 0 = s by funext x; simp [nb]]; exact K2.out⟩
            case round =>
              clear HB K1 K2
              obtain ⟨cc, rfl, hq, HB, K1, K2⟩ := hrel
              cases gk with
              | zero =>
                have hcn : ¬ ((cc : Int) < 256) := by omega
                have K2' := K2.out
                rw [show sv (nb s cc) = sv fun x => !s x by unfold sv; rw [svl_congr (fun x hx => by unfold nb; rw [if_pos (by omega)])]] at K2'
                have K3 := Hid.mk' K2'
                clear K2' K2
                obtain ⟨NS, HNS⟩ : ∃ N : Nat → Bool, Hid (N = fun x => !s x) := ⟨_, rfl⟩
                have K2 := K3
                rw [← HNS.out] at K2
                clear K3
                go_wp2_with (first | (refine wl_load74 (.tmp 7) rfl rfl rfl K2.out ?_) | (refine wl_store74 (.tmp 4) (.tmp 124) rfl rfl rfl rfl K1.out ?_))
                have K := Hid.mk' (K1.out.put74 NS)
                have B9 := Hid.mk' (below_setCells (Nat.le_refl w.heap.size) (svl NS) 0 HB.out)
                change Hid (Below _ _ (put74 _ _ NS)) at B9
                clear K1 K2
                generalize put74 wr w.heap.size NS = W9 at *
                have hlv := lv74 K.out
                refine bodyPost_ret (v := .tuple #[.agg (sv NS), .int .i64 ((j : Int) + 1), .int .i64 f]) (by simp [results, Try.results61, asAddr, hlv]) rfl ?_
                exact HPost.out _ _ NS B9.out (by rw [if_neg hen, if_neg hen]) (fun _ => by rw [HNG.out, HNS.out]; rfl)
              | succ q =>
                have hcn : (cc : Int) < 256 := by omega
                have c5 := K2.out.at74 (k := cc) (by omega)
                have z5 := K2.out.frozen cc
                rw [show nb s cc cc = s cc by unfold nb; rw [if_neg (by omega)]] at c5
                go_wp2
                go_roundg q
                case measure => omega
                case rel =>
                  refine ⟨cc + 1, by go_num, by omega, HB.out.setCell (by show w.heap.size ≤ w.heap.size + 1; omega) _, K1.out.off (by omega) _, ?_⟩
                  have h9 := K2.out.set74 cc (!s cc)
                  rw [show (fun x => if x = cc then !s cc else nb s cc x) = nb s (cc + 1) by
                    funext x
                    unfold nb
                    by_cases e : x = cc
                    · subst e; rw [if_pos rfl, if_pos (by omega)]
                    · rw [if_neg e]
                      by_cases e2 : x < cc
                      · rw [if_pos e2, if_pos (by omega)]
                      · rw [if_neg e2, if_neg (by omega)]] at h9
                  exact h9
        · have hcond : j < p.length ∧ (j = (i + 2) ∨ bn p j ≠ 93) := ⟨by omega, .inr h93⟩
          have hlt := bn_lt p j
          obtain ⟨m, hm⟩ : ∃ m, gk = m + 1 := ⟨gk - 1, by omega⟩
          subst hm
          have hsl := HL.out
          rw [sl_go hcond] at hsl
          clear HL hcond
          obtain ⟨lo, HLO⟩ : ∃ y, Hid (bn p j = y) := ⟨_, rfl⟩
          rw [HLO.out] at dx hlt h93
          have h93' : ((lo : Int) != 93) = true := by simp; omega
          go_wp2_with fail
          go_quiet (fail)
          have HB7 := Hid.mk' (bT HB.out (bDrewN _ nq))
          have K17 := Hid.mk' (K1.out.keep (bDrewN _ nq))
          have K27 := Hid.mk' (K2.out.keep (bDrewN _ nq))
          have HC5 : Hid (∀ j, j < n → (wr.drewN nq).cell? ⟨g, o + j, none⟩ = some (.int .u8 (bn p j : Int))) := fun q hq => keepC HB7.out (HCW.out q hq)
          clear HB K1 K2 HC dx
          generalize wr.drewN nq = w5 at *
          have HB := HB7
          have K1 := K17
          have K2 := K27
          clear HB7 K17 K27
          by_cases h2 : j + 2 < n
          · have h2' : (j : Int) + 2 < (n : Int) := by omega
            have d1 := HC5.out (j + 1) (by omega)
            have d2 := HC5.out (j + 2) (by omega)
            obtain ⟨y1, HY1⟩ : ∃ y, Hid (bn p (j + 1) = y) := ⟨_, rfl⟩
            have hlt2 := bn_lt p (j + 2)
            obtain ⟨hi, HY2⟩ : ∃ y, Hid (bn p (j + 2) = y) := ⟨_, rfl⟩
            rw [HY1.out] at d1
            rw [HY2.out] at d2 hlt2
            have t1 : ((j : Int) + 1).toNat = j + 1 := by omega
            have t2 : ((j : Int) + 2).toNat = j + 2 := by omega
            have t3 : (j : Int) + 1 < (n : Int) := by omega
            by_cases k1 : y1 = 45
            · have k1' : ((y1 : Int) == 45) = true := by simp; omega
              by_cases k2 : hi = 93
              · have k2' : ((hi : Int) != 93) = false := by simp; omega
                have HI : Hid (itm p j = (lo, lo, 1)) := by unfold Hid itm; rw [if_neg (by rw [HY2.out]; omega), HLO.out]
                rw [HI.out] at hsl
                dsimp only at hsl
                have HSL := Hid.mk' hsl
                clear hsl HI
                clear k1 k2
                have hlh' : ¬ ((lo : Int) < (lo : Int)) := by omega
                have hlh2 : decide ((lo : Int) < (lo : Int)) = false := decide_eq_false hlh'
                go_wp2_with fail
                go_loopg [15] (lo + 1 - lo) (fun q x15 wx => ∃ cc : Nat, x15 = .int .i64 (cc : Int) ∧ lo ≤ cc ∧ q = lo + 1 - cc ∧ (cc ≤ lo + 1 ∨ cc = lo) ∧ cc ≤ 256 ∧ Hid (Below w.heap.size w wx) ∧ Hid (Blk wx w.heap.size 104 (sv fun _ => false)) ∧ Hid (Blk wx (w.heap.size + 1) 104 (sv fun x => s x || (decide (lo ≤ x) && decide (x < cc)))))
                case atStart =>
                  refine ⟨lo, rfl, Nat.le_refl _, rfl, .inr rfl, by omega, HB.out, K1.out, ?_⟩
                  rw [show (fun x => s x || (decide (lo ≤ x) && decide (x < lo))) = s by
                    funext x
                    by_cases hx : lo ≤ x
                    · have : ¬ x < lo := by omega
                      simp [this]
                    · simp [hx]]
                  exact K2.out
                case round =>
                  obtain ⟨cc, rfl, hc1, hq, hc2, hc3, HB5, K15, K25⟩ := hrel
                  by_cases hch : cc ≤ lo
                  · have hch' : (cc : Int) ≤ (lo : Int) := by omega
                    have hcn : (cc : Int) < 256 := by omega
                    obtain ⟨q, rfl⟩ : ∃ q, gk = q + 1 := ⟨gk - 1, by omega⟩
                    have c5 := K25.out.at74 (k := cc) (by omega)
                    have z5 := K25.out.frozen cc
                    go_wp2
                    go_roundg q
                    case measure => omega
                    case rel =>
                      refine ⟨cc + 1, by go_num, by omega, by omega, by omega, by omega, HB5.out.setCell (by show w.heap.size ≤ w.heap.size + 1; omega) _, K15.out.off (by omega) _, ?_⟩
                      have h9 := K25.out.set74 cc true
                      rw [show (fun x => if x = cc then true else (s x || (decide (lo ≤ x) && decide (x < cc)))) = fun x => s x || (decide (lo ≤ x) && decide (x < cc + 1)) by
                        funext x
                        by_cases e : x = cc
                        · subst e; simp; omega
                        · rw [if_neg e]
                          have e1 : decide (x < cc + 1) = decide (x < cc) := by apply decide_eq_decide.2; omega
                          rw [e1]] at h9
                      exact h9
                  · have hch' : ¬ ((cc : Int) ≤ (lo : Int)) := by omega
                    have HE : Hid ((fun x => s x || (decide (lo ≤ x) && decide (x < cc))) = fun x => s x || (decide (lo ≤ x) && decide (x ≤ lo))) := by
                      unfold Hid; funext x
                      by_cases hx : lo ≤ x
                      · have : decide (x < cc) = decide (x ≤ lo) := by apply decide_eq_decide.2; omega
                        rw [this]
                      · simp [hx]
                    have K26 := K25.out
                    rw [HE.out] at K26
                    have K27 := Hid.mk' K26
                    clear K26 K25 HE
                    go_wp2
                    go_roundg m
                    case measure => omega
                    case rel => exact ⟨j + 1, _, f, by go_num, rfl, by omega, by omega, by omega, by omega, HB5.out, K15.out, K27.out, by have := HSL.out; rw [if_neg (fun h => Nat.lt_irrefl _ h.1)] at this; exact this⟩
              · have k2' : ((hi : Int) != 93) = true := by simp; omega
                have HI : Hid (itm p j = (lo, hi, 3)) := by unfold Hid itm; rw [if_pos (by rw [HY1.out, HY2.out]; omega), HLO.out, HY2.out]
                rw [HI.out] at hsl
                dsimp only at hsl
                have HSL := Hid.mk' hsl
                clear hsl HI k1
                by_cases hlh : hi < lo
                · have hlh' : (hi : Int) < (lo : Int) := by omega
                  by_cases hf : f = -1
                  · subst hf
                    go_wp2_with fail
                    go_loopg [15] (hi + 1 - lo) (fun q x15 wx => ∃ cc : Nat, x15 = .int .i64 (cc : Int) ∧ lo ≤ cc ∧ q = hi + 1 - cc ∧ (cc ≤ hi + 1 ∨ cc = lo) ∧ cc ≤ 256 ∧ Hid (Below w.heap.size w wx) ∧ Hid (Blk wx w.heap.size 104 (sv fun _ => false)) ∧ Hid (Blk wx (w.heap.size + 1) 104 (sv fun x => s x || (decide (lo ≤ x) && decide (x < cc)))))
                    case atStart =>
                      refine ⟨lo, rfl, Nat.le_refl _, rfl, .inr rfl, by omega, HB.out, K1.out, ?_⟩
                      rw [show (fun x => s x || (decide (lo ≤ x) && decide (x < lo))) = s by
                        funext x
                        by_cases hx : lo ≤ x
                        · have : ¬ x < lo := by omega
                          simp [this]
                        · simp [hx]]
                      exact K2.out
                    case round =>
                      obtain ⟨cc, rfl, hc1, hq, hc2, hc3, HB5, K15, K25⟩ := hrel
                      by_cases hch : cc ≤ hi
                      · omega
                      · have hch' : ¬ ((cc : Int) ≤ (hi : Int)) := by omega
                        have HE : Hid ((fun x => s x || (decide (lo ≤ x) && decide (x < cc))) = fun x => s x || (decide (lo ≤ x) && decide (x ≤ hi))) := by
                          unfold Hid; funext x
                          by_cases hx : lo ≤ x
                          · have : decide (x < cc) = decide (x ≤ hi) := by apply decide_eq_decide.2; omega
                            rw [this]
                          · simp [hx]
                        have K26 := K25.out
                        rw [HE.out] at K26
                        have K27 := Hid.mk' K26
                        clear K26 K25 HE
                        go_wp2
                        go_roundg m
                        case measure => omega
                        case rel => exact ⟨j + 3, _, (j : Int), by go_num, rfl, by omega, by omega, by omega, by omega, HB5.out, K15.out, K27.out, by have := HSL.out; rw [if_pos ⟨hlh, by first | rfl | trivial⟩] at this; exact this⟩
                  · have hf0 : ¬ (f < 0) := by omega
                    have hf1 : decide (f < 0) = false := decide_eq_false hf0
                    go_wp2_with fail
                    go_loopg [15] (hi + 1 - lo) (fun q x15 wx => ∃ cc : Nat, x15 = .int .i64 (cc : Int) ∧ lo ≤ cc ∧ q = hi + 1 - cc ∧ (cc ≤ hi + 1 ∨ cc = lo) ∧ cc ≤ 256 ∧ Hid (Below w.heap.size w wx) ∧ Hid (Blk wx w.heap.size 104 (sv fun _ => false)) ∧ Hid (Blk wx (w.heap.size + 1) 104 (sv fun x => s x || (decide (lo ≤ x) && decide (x < cc)))))
                    case atStart =>
                      refine ⟨lo, rfl, Nat.le_refl _, rfl, .inr rfl, by omega, HB.out, K1.out, ?_⟩
                      rw [show (fun x => s x || (decide (lo ≤ x) && decide (x < lo))) = s by
                        funext x
                        by_cases hx : lo ≤ x
                        · have : ¬ x < lo := by omega
                          simp [this]
                        · simp [hx]]
                      exact K2.out
                    case round =>
                      obtain ⟨cc, rfl, hc1, hq, hc2, hc3, HB5, K15, K25⟩ := hrel
                      by_cases hch : cc ≤ hi
                      · omega
                      · have hch' : ¬ ((cc : Int) ≤ (hi : Int)) := by omega
                        have HE : Hid ((fun x => s x || (decide (lo ≤ x) && decide (x < cc))) = fun x => s x || (decide (lo ≤ x) && decide (x ≤ hi))) := by
                          unfold Hid; funext x
                          by_cases hx : lo ≤ x
                          · have : decide (x < cc) = decide (x ≤ hi) := by apply decide_eq_decide.2; omega
                            rw [this]
                          · simp [hx]
                        have K26 := K25.out
                        rw [HE.out] at K26
                        have K27 := Hid.mk' K26
                        clear K26 K25 HE
                        go_wp2
                        go_roundg m
                        case measure => omega
                        case rel => exact ⟨j + 3, _, f, by go_num, rfl, by omega, by omega, by omega, by omega, HB5.out, K15.out, K27.out, by have := HSL.out; rw [if_neg (fun h => hf h.2)] at this; exact this⟩
                · have hlh' : ¬ ((hi : Int) < (lo : Int)) := by omega
                  have hlh2 : decide ((hi : Int) < (lo : Int)) = false := decide_eq_false hlh'
                  go_wp2_with fail
                  go_loopg [15] (hi + 1 - lo) (fun q x15 wx => ∃ cc : Nat, x15 = .int .i64 (cc : Int) ∧ lo ≤ cc ∧ q = hi + 1 - cc ∧ (cc ≤ hi + 1 ∨ cc = lo) ∧ cc ≤ 256 ∧ Hid (Below w.heap.size w wx) ∧ Hid (Blk wx w.heap.size 104 (sv fun _ => false)) ∧ Hid (Blk wx (w.heap.size + 1) 104 (sv fun x => s x || (decide (lo ≤ x) && decide (x < cc)))))
                  case atStart =>
                    refine ⟨lo, rfl, Nat.le_refl _, rfl, .inr rfl, by omega, HB.out, K1.out, ?_⟩
                    rw [show (fun x => s x || (decide (lo ≤ x) && decide (x < lo))) = s by
                      funext x
                      by_cases hx : lo ≤ x
                      · have : ¬ x < lo := by omega
                        simp [this]
                      · simp [hx]]
                    exact K2.out
                  case round =>
                    obtain ⟨cc, rfl, hc1, hq, hc2, hc3, HB5, K15, K25⟩ := hrel
                    by_cases hch : cc ≤ hi
                    · have hch' : (cc : Int) ≤ (hi : Int) := by omega
                      have hcn : (cc : Int) < 256 := by omega
                      obtain ⟨q, rfl⟩ : ∃ q, gk = q + 1 := ⟨gk - 1, by omega⟩
                      have c5 := K25.out.at74 (k := cc) (by omega)
                      have z5 := K25.out.frozen cc
                      go_wp2
                      go_roundg q
                      case measure => omega
                      case rel =>
                        refine ⟨cc + 1, by go_num, by omega, by omega, by omega, by omega, HB5.out.setCell (by show w.heap.size ≤ w.heap.size + 1; omega) _, K15.out.off (by omega) _, ?_⟩
                        have h9 := K25.out.set74 cc true
                        rw [show (fun x => if x = cc then true else (s x || (decide (lo ≤ x) && decide (x < cc)))) = fun x => s x || (decide (lo ≤ x) && decide (x < cc + 1)) by
                          funext x
                          by_cases e : x = cc
                          · subst e; simp; omega
                          · rw [if_neg e]
                            have e1 : decide (x < cc + 1) = decide (x < cc) := by apply decide_eq_decide.2; omega
                            rw [e1]] at h9
                        exact h9
                    · have hch' : ¬ ((cc : Int) ≤ (hi : Int)) := by omega
                      have HE : Hid ((fun x => s x || (decide (lo ≤ x) && decide (x < cc))) = fun x => s x || (decide (lo ≤ x) && decide (x ≤ hi))) := by
                        unfold Hid; funext x
                        by_cases hx : lo ≤ x
                        · have : decide (x < cc) = decide (x ≤ hi) := by apply decide_eq_decide.2; omega
                          rw [this]
                        · simp [hx]
                      have K26 := K25.out
                      rw [HE.out] at K26
                      have K27 := Hid.mk' K26
                      clear K26 K25 HE
                      go_wp2
                      go_roundg m
                      case measure => omega
                      case rel => exact ⟨j + 3, _, f, by go_num, rfl, by omega, by omega, by omega, by omega, HB5.out, K15.out, K27.out, by have := HSL.out; rw [if_neg (fun h => hlh h.1)] at this; exact this⟩
            · have k1' : ((y1 : Int) == 45) = false := by simp; omega
              have HI : Hid (itm p j = (lo, lo, 1)) := by unfold Hid itm; rw [if_neg (by rw [HY1.out]; omega), HLO.out]
              rw [HI.out] at hsl
              dsimp only at hsl
              have HSL := Hid.mk' hsl
              clear hsl HI
              have hlh' : ¬ ((lo : Int) < (lo : Int)) := by omega
              have hlh2 : decide ((lo : Int) < (lo : Int)) = false := decide_eq_false hlh'
              go_wp2_with fail
              go_loopg [15] (lo + 1 - lo) (fun q x15 wx => ∃ cc : Nat, x15 = .int .i64 (cc : Int) ∧ lo ≤ cc ∧ q = lo + 1 - cc ∧ (cc ≤ lo + 1 ∨ cc = lo) ∧ cc ≤ 256 ∧ Hid (Below w.heap.size w wx) ∧ Hid (Blk wx w.heap.size 104 (sv fun _ => false)) ∧ Hid (Blk wx (w.heap.size + 1) 104 (sv fun x => s x || (decide (lo ≤ x) && decide (x < cc)))))
              case atStart =>
                refine ⟨lo, rfl, Nat.le_refl _, rfl, .inr rfl, by omega, HB.out, K1.out, ?_⟩
                rw [show (fun x => s x || (decide (lo ≤ x) && decide (x < lo))) = s by
                  funext x
                  by_cases hx : lo ≤ x
                  · have : ¬ x < lo := by omega
                    simp [this]
                  · simp [hx]]
                exact K2.out
              case round =>
                obtain ⟨cc, rfl, hc1, hq, hc2, hc3, HB5, K15, K25⟩ := hrel
                by_cases hch : cc ≤ lo
                · have hch' : (cc : Int) ≤ (lo : Int) := by omega
                  have hcn : (cc : Int) < 256 := by omega
                  obtain ⟨q, rfl⟩ : ∃ q, gk = q + 1 := ⟨gk - 1, by omega⟩
                  have c5 := K25.out.at74 (k := cc) (by omega)
                  have z5 := K25.out.frozen cc
                  go_wp2
                  go_roundg q
                  case measure => omega
                  case rel =>
                    refine ⟨cc + 1, by go_num, by omega, by omega, by omega, by omega, HB5.out.setCell (by show w.heap.size ≤ w.heap.size + 1; omega) _, K15.out.off (by omega) _, ?_⟩
                    have h9 := K25.out.set74 cc true
                    rw [show (fun x => if x = cc then true else (s x || (decide (lo ≤ x) && decide (x < cc)))) = fun x => s x || (decide (lo ≤ x) && decide (x < cc + 1)) by
                      funext x
                      by_cases e : x = cc
                      · subst e; simp; omega
                      · rw [if_neg e]
                        have e1 : decide (x < cc + 1) = decide (x < cc) := by apply decide_eq_decide.2; omega
                        rw [e1]] at h9
                    exact h9
                · have hch' : ¬ ((cc : Int) ≤ (lo : Int)) := by omega
                  have HE : Hid ((fun x => s x || (decide (lo ≤ x) && decide (x < cc))) = fun x => s x || (decide (lo ≤ x) && decide (x ≤ lo))) := by
                    unfold Hid; funext x
                    by_cases hx : lo ≤ x
                    · have : decide (x < cc) = decide (x ≤ lo) := by apply decide_eq_decide.2; omega
                      rw [this]
                    · simp [hx]
                  have K26 := K25.out
                  rw [HE.out] at K26
                  have K27 := Hid.mk' K26
                  clear K26 K25 HE
                  go_wp2
                  go_roundg m
                  case measure => omega
                  case rel => exact ⟨j + 1, _, f, by go_num, rfl, by omega, by omega, by omega, by omega, HB5.out, K15.out, K27.out, by have := HSL.out; rw [if_neg (fun h => Nat.lt_irrefl _ h.1)] at this; exact this⟩
          · have h2' : ¬ ((j : Int) + 2 < (n : Int)) := by omega
            have h2d : decide ((j : Int) + 2 < (n : Int)) = false := decide_eq_false h2'
            have HI : Hid (itm p j = (lo, lo, 1)) := by unfold Hid itm; rw [if_neg (by omega), HLO.out]
            rw [HI.out] at hsl
            dsimp only at hsl
            have HSL := Hid.mk' hsl
            clear hsl HI
            have hlh' : ¬ ((lo : Int) < (lo : Int)) := by omega
            have hlh2 : decide ((lo : Int) < (lo : Int)) = false := decide_eq_false hlh'
            go_wp2_with fail
            go_loopg [15] (lo + 1 - lo) (fun q x15 wx => ∃ cc : Nat, x15 = .int .i64 (cc : Int) ∧ lo ≤ cc ∧ q = lo + 1 - cc ∧ (cc ≤ lo + 1 ∨ cc = lo) ∧ cc ≤ 256 ∧ Hid (Below w.heap.size w wx) ∧ Hid (Blk wx w.heap.size 104 (sv fun _ => false)) ∧ Hid (Blk wx (w.heap.size + 1) 104 (sv fun x => s x || (decide (lo ≤ x) && decide (x < cc)))))
            case atStart =>
              refine ⟨lo, rfl, Nat.le_refl _, rfl, .inr rfl, by omega, HB.out, K1.out, ?_⟩
              rw [show (fun x => s x || (decide (lo ≤ x) && decide (x < lo))) = s by
                funext x
                by_cases hx : lo ≤ x
                · have : ¬ x < lo := by omega
                  simp [this]
                · simp [hx]]
              exact K2.out
            case round =>
              obtain ⟨cc, rfl, hc1, hq, hc2, hc3, HB5, K15, K25⟩ := hrel
              by_cases hch : cc ≤ lo
              · have hch' : (cc : Int) ≤ (lo : Int) := by omega
                have hcn : (cc : Int) < 256 := by omega
                obtain ⟨q, rfl⟩ : ∃ q, gk = q + 1 := ⟨gk - 1, by omega⟩
                have c5 := K25.out.at74 (k := cc) (by omega)
                have z5 := K25.out.frozen cc
                go_wp2
                go_roundg q
                case measure => omega
                case rel =>
                  refine ⟨cc + 1, by go_num, by omega, by omega, by omega, by omega, HB5.out.setCell (by show w.heap.size ≤ w.heap.size + 1; omega) _, K15.out.off (by omega) _, ?_⟩
                  have h9 := K25.out.set74 cc true
                  rw [show (fun x => if x = cc then true else (s x || (decide (lo ≤ x) && decide (x < cc)))) = fun x => s x || (decide (lo ≤ x) && decide (x < cc + 1)) by
                    funext x
                    by_cases e : x = cc
                    · subst e; simp; omega
                    · rw [if_neg e]
                      have e1 : decide (x < cc + 1) = decide (x < cc) := by apply decide_eq_decide.2; omega
                      rw [e1]] at h9
                  exact h9
              · have hch' : ¬ ((cc : Int) ≤ (lo : Int)) := by omega
                have HE : Hid ((fun x => s x || (decide (lo ≤ x) && decide (x < cc))) = fun x => s x || (decide (lo ≤ x) && decide (x ≤ lo))) := by
                  unfold Hid; funext x
                  by_cases hx : lo ≤ x
                  · have : decide (x < cc) = decide (x ≤ lo) := by apply decide_eq_decide.2; omega
                    rw [this]
                  · simp [hx]
                have K26 := K25.out
                rw [HE.out] at K26
                have K27 := Hid.mk' K26
                clear K26 K25 HE
                go_wp2
                go_roundg m
                case measure => omega
                case rel => exact ⟨j + 1, _, f, by go_num, rfl, by omega, by omega, by omega, by omega, HB5.out, K15.out, K27.out, by have := HSL.out; rw [if_neg (fun h => Nat.lt_irrefl _ h.1)] at this; exact this⟩
      · have hjn' : ¬ ((j : Int) < (n : Int)) := by omega
        have hjn2 : decide ((j : Int) < (n : Int)) = false := decide_eq_false hjn'
        have hcond : ¬ (j < p.length ∧ (j = (i + 2) ∨ bn p j ≠ 93)) := fun h => by omega
        have he := HL.out
        rw [sl_stop hcond] at he
        injection he with he1 he2
        injection he2 with he2 he3
        subst he1 he2 he3
        clear HL
        have hen : j = n := by omega
        have HEN := Hid.mk' hen
        clear hen
        have hge : (n : Int) ≤ (j : Int) := by omega
        go_wp2_with (first | (refine wl_load74 (.tmp 7) rfl rfl rfl K2.out ?_) | (refine wl_store74 (.tmp 4) (.tmp 109) rfl rfl rfl rfl K1.out ?_))
        have K := Hid.mk' (K1.out.put74 s)
        have B9 := Hid.mk' (below_setCells (Nat.le_refl w.heap.size) (svl s) 0 HB.out)
        change Hid (Below _ _ (put74 _ _ s)) at B9
        clear K1 K2
        generalize put74 wr w.heap.size s = W9 at *
        have hlv := lv74 K.out
        refine bodyPost_ret (v := .tuple #[.agg (sv s), .int .i64 (j : Int), .int .i64 ((i : Int) + 1 - 1)]) (by simp [results, Try.results61, asAddr, hlv]) rfl ?_
        exact HPost.out _ _ s B9.out (by rw [if_pos HEN.out, if_pos HEN.out, HEN.out, Int.add_sub_cancel]) (fun h => absurd HEN.out h)
  | false =>
    have h := hg
    unfold ngd at h
    simp at h
    have hf : fst1 p i = i + 1 := by unfold fst1; rw [hg]; rfl
    have HS : Hid (sl p (i + 1) n (i + 1) (fun _ => false) (-1) = (E, S, F)) := by have := HR.out; unfold sR at this; rw [hf, hn] at this; exact this
    have HNG := Hid.mk' hg
    clear hg hf
    by_cases hfl : i + 1 < n
    · have hfl' : (i : Int) + 1 < (n : Int) := by omega
      have cx := HCW.out (i + 1) hfl
      have h' := h (by omega)
      obtain ⟨x, HX⟩ : ∃ x, Hid (bn p (i + 1) = x) := ⟨_, rfl⟩
      rw [HX.out] at cx h'
      have hne' : ((x : Int) == 94) = false := by simp; omega
      have cx2 := keepC B0.out cx
      clear h
      go_enter Try.func61, Try.ntmps61
      go_wp2_with fail
      go_loopg [1, 11, 12, 13, 14, 15] n (fun m x1 x11 x12 x13 x14 x15 wx => ∃ (j : Nat) (s : Nat → Bool) (f : Int), x1 = .int .i64 (j : Int) ∧ x11 = .int .i64 f ∧ (i + 1) ≤ j ∧ j ≤ n ∧ n ≤ m + j ∧ (f = -1 ∨ 0 ≤ f ∧ f ≤ 256) ∧ Hid (Below w.heap.size w wx) ∧ Hid (Blk wx w.heap.size 104 (sv fun _ => false)) ∧ Hid (Blk wx (w.heap.size + 1) 104 (sv s)) ∧ Hid (sl p (i + 1) m j s f = (E, S, F)))
      case atStart =>
        refine ⟨(i + 1), fun _ => false, -1, by go_num, rfl, Nat.le_refl _, by omega, by omega, .inl rfl, B0.out, by rw [HSV.out]; exact H1.out, by rw [HSV.out]; exact H2.out, HS.out⟩
      case round =>
        obtain ⟨j, s, f, rfl, rfl, hj1, hj2, hj3, hf3, HB, K1, K2, HL⟩ := hrel
        have HC : Hid (∀ j, j < n → wr.cell? ⟨g, o + j, none⟩ = some (.int .u8 (bn p j : Int))) := fun q hq => keepC HB.out (HCW.out q hq)
        by_cases hjn : j < n
        · have hjn' : (j : Int) < (n : Int) := by omega
          have dx := HC.out j hjn
          by_cases h93 : bn p j = 93
          · by_cases hjf : j = (i + 1)
            · have hcond : j < p.length ∧ (j = (i + 1) ∨ bn p j ≠ 93) := ⟨by omega, .inl hjf⟩
              have hjf' : ((j : Int) == ((i : Int) + 1)) = true := by simp; omega
              clear hjf
              have hlt := bn_lt p j
              obtain ⟨m, hm⟩ : ∃ m, gk = m + 1 := ⟨gk - 1, by omega⟩
              subst hm
              have hsl := HL.out
              rw [sl_go hcond] at hsl
              clear HL hcond
              obtain ⟨lo, HLO⟩ : ∃ y, Hid (bn p j = y) := ⟨_, rfl⟩
              rw [HLO.out] at dx hlt h93
              have h93' : ((lo : Int) != 93) = false := by simp; omega
              clear h93
              go_wp2_with fail
              go_quiet (fail)
              have HB7 := Hid.mk' (bT HB.out (bDrewN _ nq))
              have K17 := Hid.mk' (K1.out.keep (bDrewN _ nq))
              have K27 := Hid.mk' (K2.out.keep (bDrewN _ nq))
              have HC5 : Hid (∀ j, j < n → (wr.drewN nq).cell? ⟨g, o + j, none⟩ = some (.int .u8 (bn p j : Int))) := fun q hq => keepC HB7.out (HCW.out q hq)
              clear HB K1 K2 HC dx
              generalize wr.drewN nq = w5 at *
              have HB := HB7
              have K1 := K17
              have K2 := K27
              clear HB7 K17 K27
              by_cases h2 : j + 2 < n
              · have h2' : (j : Int) + 2 < (n : Int) := by omega
                have d1 := HC5.out (j + 1) (by omega)
                have d2 := HC5.out (j + 2) (by omega)
                obtain ⟨y1, HY1⟩ : ∃ y, Hid (bn p (j + 1) = y) := ⟨_, rfl⟩
                have hlt2 := bn_lt p (j + 2)
                obtain ⟨hi, HY2⟩ : ∃ y, Hid (bn p (j + 2) = y) := ⟨_, rfl⟩
                rw [HY1.out] at d1
                rw [HY2.out] at d2 hlt2
                have t1 : ((j : Int) + 1).toNat = j + 1 := by omega
                have t2 : ((j : Int) + 2).toNat = j + 2 := by omega
                have t3 : (j : Int) + 1 < (n : Int) := by omega
                by_cases k1 : y1 = 45
                · have k1' : ((y1 : Int) == 45) = true := by simp; omega
                  by_cases k2 : hi = 93
                  · have k2' : ((hi : Int) != 93) = false := by simp; omega
                    have HI : Hid (itm p j = (lo, lo, 1)) := by unfold Hid itm; rw [if_neg (by rw [HY2.out]; omega), HLO.out]
                    rw [HI.out] at hsl
                    dsimp only at hsl
                    have HSL := Hid.mk' hsl
                    clear hsl HI
                    clear k1 k2
                    have hlh' : ¬ ((lo : Int) < (lo : Int)) := by omega
                    have hlh2 : decide ((lo : Int) < (lo : Int)) = false := decide_eq_false hlh'
                    go_wp2_with fail
                    go_loopg [15] (lo + 1 - lo) (fun q x15 wx => ∃ cc : Nat, x15 = .int .i64 (cc : Int) ∧ lo ≤ cc ∧ q = lo + 1 - cc ∧ (cc ≤ lo + 1 ∨ cc = lo) ∧ cc ≤ 256 ∧ Hid (Below w.heap.size w wx) ∧ Hid (Blk wx w.heap.size 104 (sv fun _ => false)) ∧ Hid (Blk wx (w.heap.size + 1) 104 (sv fun x => s x || (decide (lo ≤ x) && decide (x < cc)))))
                    case atStart =>
                      refine ⟨lo, rfl, Nat.le_refl _, rfl, .inr rfl, by omega, HB.out, K1.out, ?_⟩
                      rw [show (fun x => s x || (decide (lo ≤ x) && decide (x < lo))) = s by
                        funext x
                        by_cases hx : lo ≤ x
                        · have : ¬ x < lo := by omega
                          simp [this]
                        · simp [hx]]
                      exact K2.out
                    case round =>
                      obtain ⟨cc, rfl, hc1, hq, hc2, hc3, HB5, K15, K25⟩ := hrel
                      by_cases hch : cc ≤ lo
                      · have hch' : (cc : Int) ≤ (lo : Int) := by omega
                        have hcn : (cc : Int) < 256 := by omega
                        obtain ⟨q, rfl⟩ : ∃ q, gk = q + 1 := ⟨gk - 1, by omega⟩
                        have c5 := K25.out.at74 (k := cc) (by omega)
                        have z5 := K25.out.frozen cc
                        go_wp2
                        go_roundg q
                        case measure => omega
                        case rel =>
                          refine ⟨cc + 1, by go_num, by omega, by omega, by omega, by omega, HB5.out.setCell (by show w.heap.size ≤ w.heap.size + 1; omega) _, K15.out.off (by omega) _, ?_⟩
                          have h9 := K25.out.set74 cc true
                          rw [show (fun x => if x = cc then true else (s x || (decide (lo ≤ x) && decide (x < cc)))) = fun x => s x || (decide (lo ≤ x) && decide (x < cc + 1)) by
                            funext x
                            by_cases e : x = cc
                            · subst e; simp; omega
                            · rw [if_neg e]
                              have e1 : decide (x < cc + 1) = decide (x < cc) := by apply decide_eq_decide.2; omega
                              rw [e1]] at h9
                          exact h9
                      · have hch' : ¬ ((cc : Int) ≤ (lo : Int)) := by omega
                        have HE : Hid ((fun x => s x || (decide (lo ≤ x) && decide (x < cc))) = fun x => s x || (decide (lo ≤ x) && decide (x ≤ lo))) := by
                          unfold Hid; funext x
                          by_cases hx : lo ≤ x
                          · have : decide (x < cc) = decide (x ≤ lo) := by apply decide_eq_decide.2; omega
                            rw [this]
                          · simp [hx]
                        have K26 := K25.out
                        rw [HE.out] at K26
                        have K27 := Hid.mk' K26
                        clear K26 K25 HE
                        go_wp2
                        go_roundg m
                        case measure => omega
                        case rel => exact ⟨j + 1, _, f, by go_num, rfl, by omega, by omega, by omega, by omega, HB5.out, K15.out, K27.out, by have := HSL.out; rw [if_neg (fun h => Nat.lt_irrefl _ h.1)] at this; exact this⟩
                  · have k2' : ((hi : Int) != 93) = true := by simp; omega
                    have HI : Hid (itm p j = (lo, hi, 3)) := by unfold Hid itm; rw [if_pos (by rw [HY1.out, HY2.out]; omega), HLO.out, HY2.out]
                    rw [HI.out] at hsl
                    dsimp only at hsl
                    have HSL := Hid.mk' hsl
                    clear hsl HI k1
                    by_cases hlh : hi < lo
                    · have hlh' : (hi : Int) < (lo : Int) := by omega
                      by_cases hf : f = -1
                      · subst hf
                        go_wp2_with fail
                        go_loopg [15] (hi + 1 - lo) (fun q x15 wx => ∃ cc : Nat, x15 = .int .i64 (cc : Int) ∧ lo ≤ cc ∧ q = hi + 1 - cc ∧ (cc ≤ hi + 1 ∨ cc = lo) ∧ cc ≤ 256 ∧ Hid (Below w.heap.size w wx) ∧ Hid (Blk wx w.heap.size 104 (sv fun _ => false)) ∧ Hid (Blk wx (w.heap.size + 1) 104 (sv fun x => s x || (decide (lo ≤ x) && decide (x < cc)))))
                        case atStart =>
                          refine ⟨lo, rfl, Nat.le_refl _, rfl, .inr rfl, by omega, HB.out, K1.out, ?_⟩
                          rw [show (fun x => s x || (decide (lo ≤ x) && decide (x < lo))) = s by
                            funext x
                            by_cases hx : lo ≤ x
                            · have : ¬ x < lo := by omega
                              simp [this]
                            · simp [hx]]
                          exact K2.out
                        case round =>
                          obtain ⟨cc, rfl, hc1, hq, hc2, hc3, HB5, K15, K25⟩ := hrel
                          by_cases hch : cc ≤ hi
                          · omega
                          · have hch' : ¬ ((cc : Int) ≤ (hi : Int)) := by omega
                            have HE : Hid ((fun x => s x || (decide (lo ≤ x) && decide (x < cc))) = fun x => s x || (decide (lo ≤ x) && decide (x ≤ hi))) := by
                              unfold Hid; funext x
                              by_cases hx : lo ≤ x
                              · have : decide (x < cc) = decide (x ≤ hi) := by apply decide_eq_decide.2; omega
                                rw [this]
                              · simp [hx]
                            have K26 := K25.out
                            rw [HE.out] at K26
                            have K27 := Hid.mk' K26
                            clear K26 K25 HE
                            go_wp2
                            go_roundg m
                            case measure => omega
                            case rel => exact ⟨j + 3, _, (j : Int), by go_num, rfl, by omega, by omega, by omega, by omega, HB5.out, K15.out, K27.out, by have := HSL.out; rw [if_pos ⟨hlh, by first | rfl | trivial⟩] at this; exact this⟩
                      · have hf0 : ¬ (f < 0) := by omega
                        have hf1 : decide (f < 0) = false := decide_eq_false hf0
                        go_wp2_with fail
                        go_loopg [15] (hi + 1 - lo) (fun q x15 wx => ∃ cc : Nat, x15 = .int .i64 (cc : Int) ∧ lo ≤ cc ∧ q = hi + 1 - cc ∧ (cc ≤ hi + 1 ∨ cc = lo) ∧ cc ≤ 256 ∧ Hid (Below w.heap.size w wx) ∧ Hid (Blk wx w.heap.size 104 (sv fun _ => false)) ∧ Hid (Blk wx (w.heap.size + 1) 104 (sv fun x => s x || (decide (lo ≤ x) && decide (x < cc)))))
                        case atStart =>
                          refine ⟨lo, rfl, Nat.le_refl _, rfl, .inr rfl, by omega, HB.out, K1.out, ?_⟩
                          rw [show (fun x => s x || (decide (lo ≤ x) && decide (x < lo))) = s by
                            funext x
                            by_cases hx : lo ≤ x
                            · have : ¬ x < lo := by omega
                              simp [this]
                            · simp [hx]]
                          exact K2.out
                        case round =>
                          obtain ⟨cc, rfl, hc1, hq, hc2, hc3, HB5, K15, K25⟩ := hrel
                          by_cases hch : cc ≤ hi
                          · omega
                          · have hch' : ¬ ((cc : Int) ≤ (hi : Int)) := by omega
                            have HE : Hid ((fun x => s x || (decide (lo ≤ x) && decide (x < cc))) = fun x => s x || (decide (lo ≤ x) && decide (x ≤ hi))) := by
                              unfold Hid; funext x
                              by_cases hx : lo ≤ x
                              · have : decide (x < cc) = decide (x ≤ hi) := by apply decide_eq_decide.2; omega
                                rw [this]
                              · simp [hx]
                            have K26 := K25.out
                            rw [HE.out] at K26
                            have K27 := Hid.mk' K26
                            clear K26 K25 HE
                            go_wp2
                            go_roundg m
                            case measure => omega
                            case rel => exact ⟨j + 3, _, f, by go_num, rfl, by omega, by omega, by omega, by omega, HB5.out, K15.out, K27.out, by have := HSL.out; rw [if_neg (fun h => hf h.2)] at this; exact this⟩
                    · have hlh' : ¬ ((hi : Int) < (lo : Int)) := by omega
                      have hlh2 : decide ((hi : Int) < (lo : Int)) = false := decide_eq_false hlh'
                      go_wp2_with fail
                      go_loopg [15] (hi + 1 - lo) (fun q x15 wx => ∃ cc : Nat, x15 = .int .i64 (cc : Int) ∧ lo ≤ cc ∧ q = hi + 1 - cc ∧ (cc ≤ hi + 1 ∨ cc = lo) ∧ cc ≤ 256 ∧ Hid (Below w.heap.size w wx) ∧ Hid (Blk wx w.heap.size 104 (sv fun _ => false)) ∧ Hid (Blk wx (w.heap.size + 1) 104 (sv fun x => s x || (decide (lo ≤ x) && decide (x < cc)))))
                      case atStart =>
                        refine ⟨lo, rfl, Nat.le_refl _, rfl, .inr rfl, by omega, HB.out, K1.out, ?_⟩
                        rw [show (fun x => s x || (decide (lo ≤ x) && decide (x < lo))) = s by
                          funext x
                          by_cases hx : lo ≤ x
                          · have : ¬ x < lo := by omega
                            simp [this]
                          · simp [hx]]
                        exact K2.out
                      case round =>
                        obtain ⟨cc, rfl, hc1, hq, hc2, hc3, HB5, K15, K25⟩ := hrel
                        by_cases hch : cc ≤ hi
                        · have hch' : (cc : Int) ≤ (hi : Int) := by omega
                          have hcn : (cc : Int) < 256 := by omega
                          obtain ⟨q, rfl⟩ : ∃ q, gk = q + 1 := ⟨gk - 1, by omega⟩
                          have c5 := K25.out.at74 (k := cc) (by omega)
                          have z5 := K25.out.frozen cc
                          go_wp2
                          go_roundg q
                          case measure => omega
                          case rel =>
                            refine ⟨cc + 1, by go_num, by omega, by omega, by omega, by omega, HB5.out.setCell (by show w.heap.size ≤ w.heap.size + 1; omega) _, K15.out.off (by omega) _, ?_⟩
                            have h9 := K25.out.set74 cc true
                            rw [show (fun x => if x = cc then true else (s x || (decide (lo ≤ x) && decide (x < cc)))) = fun x => s x || (decide (lo ≤ x) && decide (x < cc + 1)) by
                              funext x
                              by_cases e : x = cc
                              · subst e; simp; omega
                              · rw [if_neg e]
                                have e1 : decide (x < cc + 1) = decide (x < cc) := by apply decide_eq_decide.2; omega
                                rw [e1]] at h9
                            exact h9
                        · have hch' : ¬ ((cc : Int) ≤ (hi : Int)) := by omega
                          have HE : Hid ((fun x => s x || (decide (lo ≤ x) && decide (x < cc))) = fun x => s x || (decide (lo ≤ x) && decide (x ≤ hi))) := by
                            unfold Hid; funext x
                            by_cases hx : lo ≤ x
                            · have : decide (x < cc) = decide (x ≤ hi) := by apply decide_eq_decide.2; omega
                              rw [this]
                            · simp [hx]
                          have K26 := K25.out
                          rw [HE.out] at K26
                          have K27 := Hid.mk' K26
                          clear K26 K25 HE
                          go_wp2
                          go_roundg m
                          case measure => omega
                          case rel => exact ⟨j + 3, _, f, by go_num, rfl, by omega, by omega, by omega, by omega, HB5.out, K15.out, K27.out, by have := HSL.out; rw [if_neg (fun h => hlh h.1)] at this; exact this⟩
                · have k1' : ((y1 : Int) == 45) = false := by simp; omega
                  have HI : Hid (itm p j = (lo, lo, 1)) := by unfold Hid itm; rw [if_neg (by rw [HY1.out]; omega), HLO.out]
                  rw [HI.out] at hsl
                  dsimp only at hsl
                  have HSL := Hid.mk' hsl
                  clear hsl HI
                  have hlh' : ¬ ((lo : Int) < (lo : Int)) := by omega
                  have hlh2 : decide ((lo : Int) < (lo : Int)) = false := decide_eq_false hlh'
                  go_wp2_with fail
                  go_loopg [15] (lo + 1 - lo) (fun q x15 wx => ∃ cc : Nat, x15 = .int .i64 (cc : Int) ∧ lo ≤ cc ∧ q = lo + 1 - cc ∧ (cc ≤ lo + 1 ∨ cc = lo) ∧ cc ≤ 256 ∧ Hid (Below w.heap.size w wx) ∧ Hid (Blk wx w.heap.size 104 (sv fun _ => false)) ∧ Hid (Blk wx (w.heap.size + 1) 104 (sv fun x => s x || (decide (lo ≤ x) && decide (x < cc)))))
                  case atStart =>
                    refine ⟨lo, rfl, Nat.le_refl _, rfl, .inr rfl, by omega, HB.out, K1.out, ?_⟩
                    rw [show (fun x => s x || (decide (lo ≤ x) && decide (x < lo))) = s by
                      funext x
                      by_cases hx : lo ≤ x
                      · have : ¬ x < lo := by omega
                        simp [this]
                      · simp [hx]]
                    exact K2.out
                  case round =>
                    obtain ⟨cc, rfl, hc1, hq, hc2, hc3, HB5, K15, K25⟩ := hrel
                    by_cases hch : cc ≤ lo
                    · have hch' : (cc : Int) ≤ (lo : Int) := by omega
                      have hcn : (cc : Int) < 256 := by omega
                      obtain ⟨q, rfl⟩ : ∃ q, gk = q + 1 := ⟨gk - 1, by omega⟩
                      have c5 := K25.out.at74 (k := cc) (by omega)
                      have z5 := K25.out.frozen cc
                      go_wp2
                      go_roundg q
                      case measure => omega
                      case rel =>
                        refine ⟨cc + 1, by go_num, by omega, by omega, by omega, by omega, HB5.out.setCell (by show w.heap.size ≤ w.heap.size + 1; omega) _, K15.out.off (by omega) _, ?_⟩
                        have h9 := K25.out.set74 cc true
                        rw [show (fun x => if x = cc then true else (s x || (decide (lo ≤ x) && decide (x < cc)))) = fun x => s x || (decide (lo ≤ x) && decide (x < cc + 1)) by
                          funext x
                          by_cases e : x = cc
                          · subst e; simp; omega
                          · rw [if_neg e]
                            have e1 : decide (x < cc + 1) = decide (x < cc) := by apply decide_eq_decide.2; omega
                            rw [e1]] at h9
                        exact h9
                    · have hch' : ¬ ((cc : Int) ≤ (lo : Int)) := by omega
                      have HE : Hid ((fun x => s x || (decide (lo ≤ x) && decide (x < cc))) = fun x => s x || (decide (lo ≤ x) && decide (x ≤ lo))) := by
                        unfold Hid; funext x
                        by_cases hx : lo ≤ x
                        · have : decide (x < cc) = decide (x ≤ lo) := by apply decide_eq_decide.2; omega
                          rw [this]
                        · simp [hx]
                      have K26 := K25.out
                      rw [HE.out] at K26
                      have K27 := Hid.mk' K26
                      clear K26 K25 HE
                      go_wp2
                      go_roundg m
                      case measure => omega
                      case rel => exact ⟨j + 1, _, f, by go_num, rfl, by omega, by omega, by omega, by omega, HB5.out, K15.out, K27.out, by have := HSL.out; rw [if_neg (fun h => Nat.lt_irrefl _ h.1)] at this; exact this⟩
              · have h2' : ¬ ((j : Int) + 2 < (n : Int)) := by omega
                have h2d : decide ((j : Int) + 2 < (n : Int)) = false := decide_eq_false h2'
                have HI : Hid (itm p j = (lo, lo, 1)) := by unfold Hid itm; rw [if_neg (by omega), HLO.out]
                rw [HI.out] at hsl
                dsimp only at hsl
                have HSL := Hid.mk' hsl
                clear hsl HI
                have hlh' : ¬ ((lo : Int) < (lo : Int)) := by omega
                have hlh2 : decide ((lo : Int) < (lo : Int)) = false := decide_eq_false hlh'
                go_wp2_with fail
                go_loopg [15] (lo + 1 - lo) (fun q x15 wx => ∃ cc : Nat, x15 = .int .i64 (cc : Int) ∧ lo ≤ cc ∧ q = lo + 1 - cc ∧ (cc ≤ lo + 1 ∨ cc = lo) ∧ cc ≤ 256 ∧ Hid (Below w.heap.size w wx) ∧ Hid (Blk wx w.heap.size 104 (sv fun _ => false)) ∧ Hid (Blk wx (w.heap.size + 1) 104 (sv fun x => s x || (decide (lo ≤ x) && decide (x < cc)))))
                case atStart =>
                  refine ⟨lo, rfl, Nat.le_refl _, rfl, .inr rfl, by omega, HB.out, K1.out, ?_⟩
                  rw [show (fun x => s x || (decide (lo ≤ x) && decide (x < lo))) = s by
                    funext x
                    by_cases hx : lo ≤ x
                    · have : ¬ x < lo := by omega
                      simp [this]
                    · simp [hx]]
                  exact K2.out
                case round =>
                  obtain ⟨cc, rfl, hc1, hq, hc2, hc3, HB5, K15, K25⟩ := hrel
                  by_cases hch : cc ≤ lo
                  · have hch' : (cc : Int) ≤ (lo : Int) := by omega
                    have hcn : (cc : Int) < 256 := by omega
                    obtain ⟨q, rfl⟩ : ∃ q, gk = q + 1 := ⟨gk - 1, by omega⟩
                    have c5 := K25.out.at74 (k := cc) (by omega)
                    have z5 := K25.out.frozen cc
                    go_wp2
                    go_roundg q
                    case measure => omega
                    case rel =>
                      refine ⟨cc + 1, by go_num, by omega, by omega, by omega, by omega, HB5.out.setCell (by show w.heap.size ≤ w.heap.size + 1; omega) _, K15.out.off (by omega) _, ?_⟩
                      have h9 := K25.out.set74 cc true
                      rw [show (fun x => if x = cc then true else (s x || (decide (lo ≤ x) && decide (x < cc)))) = fun x => s x || (decide (lo ≤ x) && decide (x < cc + 1)) by
                        funext x
                        by_cases e : x = cc
                        · subst e; simp; omega
                        · rw [if_neg e]
                          have e1 : decide (x < cc + 1) = decide (x < cc) := by apply decide_eq_decide.2; omega
                          rw [e1]] at h9
                      exact h9
                  · have hch' : ¬ ((cc : Int) ≤ (lo : Int)) := by omega
                    have HE : Hid ((fun x => s x || (decide (lo ≤ x) && decide (x < cc))) = fun x => s x || (decide (lo ≤ x) && decide (x ≤ lo))) := by
                      unfold Hid; funext x
                      by_cases hx : lo ≤ x
                      · have : decide (x < cc) = decide (x ≤ lo) := by apply decide_eq_decide.2; omega
                        rw [this]
                      · simp [hx]
                    have K26 := K25.out
                    rw [HE.out] at K26
                    have K27 := Hid.mk' K26
                    clear K26 K25 HE
                    go_wp2
                    go_roundg m
                    case measure => omega
                    case rel => exact ⟨j + 1, _, f, by go_num, rfl, by omega, by omega, by omega, by omega, HB5.out, K15.out, K27.out, by have := HSL.out; rw [if_neg (fun h => Nat.lt_irrefl _ h.1)] at this; exact this⟩
            · have hjf' : ((j : Int) == ((i : Int) + 1)) = false := by simp; omega
              have hcond : ¬ (j < p.length ∧ (j = (i + 1) ∨ bn p j ≠ 93)) := by rintro ⟨_, h | h⟩; exact hjf h; exact h h93
              rw [h93] at dx
              clear h93
              have he := HL.out
              rw [sl_stop hcond] at he
              injection he with he1 he2
              injection he2 with he2 he3
              subst he1 he2 he3
              clear HL
              have hen : j ≠ n := by omega
              have hge : ¬ ((n : Int) ≤ (j : Int)) := by omega
              go_wp2_with (first | (refine wl_load74 (.tmp 7) rfl rfl rfl K2.out ?_) | (refine wl_store74 (.tmp 4) (.tmp 124) rfl rfl rfl rfl K1.out ?_))
              have K := Hid.mk' (K1.out.put74 s)
              have B9 := Hid.mk' (below_setCells (Nat.le_refl w.heap.size) (svl s) 0 HB.out)
              change Hid (Below _ _ (put74 _ _ s)) at B9
              clear K1 K2
              generalize put74 wr w.heap.size s = W9 at *
              have hlv := lv74 K.out
              refine bodyPost_ret (v := .tuple #[.agg (sv s), .int .i64 ((j : Int) + 1), .int .i64 f]) (by simp [results, Try.results61, asAddr, hlv]) rfl ?_
              exact HPost.out _ _ s B9.out (by rw [if_neg hen, if_neg hen]) (fun _ => by rw [HNG.out]; rfl)
          · have hcond : j < p.length ∧ (j = (i + 1) ∨ bn p j ≠ 93) := ⟨by omega, .inr h93⟩
            have hlt := bn_lt p j
            obtain ⟨m, hm⟩ : ∃ m, gk = m + 1 := ⟨gk - 1, by omega⟩
            subst hm
            have hsl := HL.out
            rw [sl_go hcond] at hsl
            clear HL hcond
            obtain ⟨lo, HLO⟩ : ∃ y, Hid (bn p j = y) := ⟨_, rfl⟩
            rw [HLO.out] at dx hlt h93
            have h93' : ((lo : Int) != 93) = true := by simp; omega
            go_wp2_with fail
            go_quiet (fail)
            have HB7 := Hid.mk' (bT HB.out (bDrewN _ nq))
            have K17 := Hid.mk' (K1.out.keep (bDrewN _ nq))
            have K27 := Hid.mk' (K2.out.keep (bDrewN _ nq))
            have HC5 : Hid (∀ j, j < n → (wr.drewN nq).cell? ⟨g, o + j, none⟩ = some (.int .u8 (bn p j : Int))) := fun q hq => keepC HB7.out (HCW.out q hq)
            clear HB K1 K2 HC dx
            generalize wr.drewN nq = w5 at *
            have HB := HB7
            have K1 := K17
            have K2 := K27
            clear HB7 K17 K27
            by_cases h2 : j + 2 < n
            · have h2' : (j : Int) + 2 < (n : Int) := by omega
              have d1 := HC5.out (j + 1) (by omega)
              have d2 := HC5.out (j + 2) (by omega)
              obtain ⟨y1, HY1⟩ : ∃ y, Hid (bn p (j + 1) = y) := ⟨_, rfl⟩
              have hlt2 := bn_lt p (j + 2)
              obtain ⟨hi, HY2⟩ : ∃ y, Hid (bn p (j + 2) = y) := ⟨_, rfl⟩
              rw [HY1.out] at d1
              rw [HY2.out] at d2 hlt2
              have t1 : ((j : Int) + 1).toNat = j + 1 := by omega
              have t2 : ((j : Int) + 2).toNat = j + 2 := by omega
              have t3 : (j : Int) + 1 < (n : Int) := by omega
              by_cases k1 : y1 = 45
              · have k1' : ((y1 : Int) == 45) = true := by simp; omega
                by_cases k2 : hi = 93
                · have k2' : ((hi : Int) != 93) = false := by simp; omega
                  have HI : Hid (itm p j = (lo, lo, 1)) := by unfold Hid itm; rw [if_neg (by rw [HY2.out]; omega), HLO.out]
                  rw [HI.out] at hsl
                  dsimp only at hsl
                  have HSL := Hid.mk' hsl
                  clear hsl HI
                  clear k1 k2
                  have hlh' : ¬ ((lo : Int) < (lo : Int)) := by omega
                  have hlh2 : decide ((lo : Int) < (lo : Int)) = false := decide_eq_false hlh'
                  go_wp2_with fail
                  go_loopg [15] (lo + 1 - lo) (fun q x15 wx => ∃ cc : Nat, x15 = .int .i64 (cc : Int) ∧ lo ≤ cc ∧ q = lo + 1 - cc ∧ (cc ≤ lo + 1 ∨ cc = lo) ∧ cc ≤ 256 ∧ Hid (Below w.heap.size w wx) ∧ Hid (Blk wx w.heap.size 104 (sv fun _ => false)) ∧ Hid (Blk wx (w.heap.size + 1) 104 (sv fun x => s x || (decide (lo ≤ x) && decide (x < cc)))))
                  case atStart =>
                    refine ⟨lo, rfl, Nat.le_refl _, rfl, .inr rfl, by omega, HB.out, K1.out, ?_⟩
                    rw [show (fun x => s x || (decide (lo ≤ x) && decide (x < lo))) = s by
                      funext x
                      by_cases hx : lo ≤ x
                      · have : ¬ x < lo := by omega
                        simp [this]
                      · simp [hx]]
                    exact K2.out
                  case round =>
                    obtain ⟨cc, rfl, hc1, hq, hc2, hc3, HB5, K15, K25⟩ := hrel
                    by_cases hch : cc ≤ lo
                    · have hch' : (cc : Int) ≤ (lo : Int) := by omega
                      have hcn : (cc : Int) < 256 := by omega
                      obtain ⟨q, rfl⟩ : ∃ q, gk = q + 1 := ⟨gk - 1, by omega⟩
                      have c5 := K25.out.at74 (k := cc) (by omega)
                      have z5 := K25.out.frozen cc
                      go_wp2
                      go_roundg q
                      case measure => omega
                      case rel =>
                        refine ⟨cc + 1, by go_num, by omega, by omega, by omega, by omega, HB5.out.setCell (by show w.heap.size ≤ w.heap.size + 1; omega) _, K15.out.off (by omega) _, ?_⟩
                        have h9 := K25.out.set74 cc true
                        rw [show (fun x => if x = cc then true else (s x || (decide (lo ≤ x) && decide (x < cc)))) = fun x => s x || (decide (lo ≤ x) && decide (x < cc + 1)) by
                          funext x
                          by_cases e : x = cc
                          · subst e; simp; omega
                          · rw [if_neg e]
                            have e1 : decide (x < cc + 1) = decide (x < cc) := by apply decide_eq_decide.2; omega
                            rw [e1]] at h9
                        exact h9
                    · have hch' : ¬ ((cc : Int) ≤ (lo : Int)) := by omega
                      have HE : Hid ((fun x => s x || (decide (lo ≤ x) && decide (x < cc))) = fun x => s x || (decide (lo ≤ x) && decide (x ≤ lo))) := by
                        unfold Hid; funext x
                        by_cases hx : lo ≤ x
                        · have : decide (x < cc) = decide (x ≤ lo) := by apply decide_eq_decide.2; omega
                          rw [this]
                        · simp [hx]
                      have K26 := K25.out
                      rw [HE.out] at K26
                      have K27 := Hid.mk' K26
                      clear K26 K25 HE
                      go_wp2
                      go_roundg m
                      case measure => omega
                      case rel => exact ⟨j + 1, _, f, by go_num, rfl, by omega, by omega, by omega, by omega, HB5.out, K15.out, K27.out, by have := HSL.out; rw [if_neg (fun h => Nat.lt_irrefl _ h.1)] at this; exact this⟩
                · have k2' : ((hi : Int) != 93) = true := by simp; omega
                  have HI : Hid (itm p j = (lo, hi, 3)) := by unfold Hid itm; rw [if_pos (by rw [HY1.out, HY2.out]; omega), HLO.out, HY2.out]
                  rw [HI.out] at hsl
                  dsimp only at hsl
                  have HSL := Hid.mk' hsl
                  clear hsl HI k1
                  by_cases hlh : hi < lo
                  · have hlh' : (hi : Int) < (lo : Int) := by omega
                    by_cases hf : f = -1
                    · subst hf
                      go_wp2_with fail
                      go_loopg [15] (hi + 1 - lo) (fun q x15 wx => ∃ cc : Nat, x15 = .int .i64 (cc : Int) ∧ lo ≤ cc ∧ q = hi + 1 - cc ∧ (cc ≤ hi + 1 ∨ cc = lo) ∧ cc ≤ 256 ∧ Hid (Below w.heap.size w wx) ∧ Hid (Blk wx w.heap.size 104 (sv fun _ => false)) ∧ Hid (Blk wx (w.heap.size + 1) 104 (sv fun x => s x || (decide (lo ≤ x) && decide (x < cc)))))
                      case atStart =>
                        refine ⟨lo, rfl, Nat.le_refl _, rfl, .inr rfl, by omega, HB.out, K1.out, ?_⟩
                        rw [show (fun x => s x || (decide (lo ≤ x) && decide (x < lo))) = s by
                          funext x
                          by_cases hx : lo ≤ x
                          · have : ¬ x < lo := by omega
                            simp [this]
                          · simp [hx]]
                        exact K2.out
                      case round =>
                        obtain ⟨cc, rfl, hc1, hq, hc2, hc3, HB5, K15, K25⟩ := hrel
                        by_cases hch : cc ≤ hi
                        · omega
                        · have hch' : ¬ ((cc : Int) ≤ (hi : Int)) := by omega
                          have HE : Hid ((fun x => s x || (decide (lo ≤ x) && decide (x < cc))) = fun x => s x || (decide (lo ≤ x) && decide (x ≤ hi))) := by
                            unfold Hid; funext x
                            by_cases hx : lo ≤ x
                            · have : decide (x < cc) = decide (x ≤ hi) := by apply decide_eq_decide.2; omega
                              rw [this]
                            · simp [hx]
                          have K26 := K25.out
                          rw [HE.out] at K26
                          have K27 := Hid.mk' K26
                          clear K26 K25 HE
                          go_wp2
                          go_roundg m
                          case measure => omega
                          case rel => exact ⟨j + 3, _, (j : Int), by go_num, rfl, by omega, by omega, by omega, by omega, HB5.out, K15.out, K27.out, by have := HSL.out; rw [if_pos ⟨hlh, by first | rfl | trivial⟩] at this; exact this⟩
                    · have hf0 : ¬ (f < 0) := by omega
                      have hf1 : decide (f < 0) = false := decide_eq_false hf0
                      go_wp2_with fail
                      go_loopg [15] (hi + 1 - lo) (fun q x15 wx => ∃ cc : Nat, x15 = .int .i64 (cc : Int) ∧ lo ≤ cc ∧ q = hi + 1 - cc ∧ (cc ≤ hi + 1 ∨ cc = lo) ∧ cc ≤ 256 ∧ Hid (Below w.heap.size w wx) ∧ Hid (Blk wx w.heap.size 104 (sv fun _ => false)) ∧ Hid (Blk wx (w.heap.size + 1) 104 (sv fun x => s x || (decide (lo ≤ x) && decide (x < cc)))))
                      case atStart =>
                        refine ⟨lo, rfl, Nat.le_refl _, rfl, .inr rfl, by omega, HB.out, K1.out, ?_⟩
                        rw [show (fun x => s x || (decide (lo ≤ x) && decide (x < lo))) = s by
                          funext x
                          by_cases hx : lo ≤ x
                          · have : ¬ x < lo := by omega
                            simp [this]
                          · simp [hx]]
                        exact K2.out
                      case round =>
                        obtain ⟨cc, rfl, hc1, hq, hc2, hc3, HB5, K15, K25⟩ := hrel
                        by_cases hch : cc ≤ hi
                        · omega
                        · have hch' : ¬ ((cc : Int) ≤ (hi : Int)) := by omega
                          have HE : Hid ((fun x => s x || (decide (lo ≤ x) && decide (x < cc))) = fun x => s x || (decide (lo ≤ x) && decide (x ≤ hi))) := by
                            unfold Hid; funext x
                            by_cases hx : lo ≤ x
                            · have : decide (x < cc) = decide (x ≤ hi) := by apply decide_eq_decide.2; omega
                              rw [this]
                            · simp [hx]
                          have K26 := K25.out
                          rw [HE.out] at K26
                          have K27 := Hid.mk' K26
                          clear K26 K25 HE
                          go_wp2
                          go_roundg m
                          case measure => omega
                          case rel => exact ⟨j + 3, _, f, by go_num, rfl, by omega, by omega, by omega, by omega, HB5.out, K15.out, K27.out, by have := HSL.out; rw [if_neg (fun h => hf h.2)] at this; exact this⟩
                  · have hlh' : ¬ ((hi : Int) < (lo : Int)) := by omega
                    have hlh2 : decide ((hi : Int) < (lo : Int)) = false := decide_eq_false hlh'
                    go_wp2_with fail
                    go_loopg [15] (hi + 1 - lo) (fun q x15 wx => ∃ cc : Nat, x15 = .int .i64 (cc : Int) ∧ lo ≤ cc ∧ q = hi + 1 - cc ∧ (cc ≤ hi + 1 ∨ cc = lo) ∧ cc ≤ 256 ∧ Hid (Below w.heap.size w wx) ∧ Hid (Blk wx w.heap.size 104 (sv fun _ => false)) ∧ Hid (Blk wx (w.heap.size + 1) 104 (sv fun x => s x || (decide (lo ≤ x) && decide (x < cc)))))
                    case atStart =>
                      refine ⟨lo, rfl, Nat.le_refl _, rfl, .inr rfl, by omega, HB.out, K1.out, ?_⟩
                      rw [show (fun x => s x || (decide (lo ≤ x) && decide (x < lo))) = s by
                        funext x
                        by_cases hx : lo ≤ x
                        · have : ¬ x < lo := by omega
                          simp [this]
                        · simp [hx]]
                      exact K2.out
                    case round =>
                      obtain ⟨cc, rfl, hc1, hq, hc2, hc3, HB5, K15, K25⟩ := hrel
                      by_cases hch : cc ≤ hi
                      · have hch' : (cc : Int) ≤ (hi : Int) := by omega
                        have hcn : (cc : Int) < 256 := by omega
                        obtain ⟨q, rfl⟩ : ∃ q, gk = q + 1 := ⟨gk - 1, by omega⟩
                        have c5 := K25.out.at74 (k := cc) (by omega)
                        have z5 := K25.out.frozen cc
                        go_wp2
                        go_roundg q
                        case measure => omega
                        case rel =>
                          refine ⟨cc + 1, by go_num, by omega, by omega, by omega, by omega, HB5.out.setCell (by show w.heap.size ≤ w.heap.size + 1; omega) _, K15.out.off (by omega) _, ?_⟩
                          have h9 := K25.out.set74 cc true
                          rw [show (fun x => if x = cc then true else (s x || (decide (lo ≤ x) && decide (x < cc)))) = fun x => s x || (decide (lo ≤ x) && decide (x < cc + 1)) by
                            funext x
                            by_cases e : x = cc
                            · subst e; simp; omega
                            · rw [if_neg e]
                              have e1 : decide (x < cc + 1) = decide (x < cc) := by apply decide_eq_decide.2; omega
                              rw [e1]] at h9
                          exact h9
                      · have hch' : ¬ ((cc : Int) ≤ (hi : Int)) := by omega
                        have HE : Hid ((fun x => s x || (decide (lo ≤ x) && decide (x < cc))) = fun x => s x || (decide (lo ≤ x) && decide (x ≤ hi))) := by
                          unfold Hid; funext x
                          by_cases hx : lo ≤ x
                          · have : decide (x < cc) = decide (x ≤ hi) := by apply decide_eq_decide.2; omega
                            rw [this]
                          · simp [hx]
                        have K26 := K25.out
                        rw [HE.out] at K26
                        have K27 := Hid.mk' K26
                        clear K26 K25 HE
                        go_wp2
                        go_roundg m
                        case measure => omega
                        case rel => exact ⟨j + 3, _, f, by go_num, rfl, by omega, by omega, by omega, by omega, HB5.out, K15.out, K27.out, by have := HSL.out; rw [if_neg (fun h => hlh h.1)] at this; exact this⟩
              · have k1' : ((y1 : Int) == 45) = false := by simp; omega
                have HI : Hid (itm p j = (lo, lo, 1)) := by unfold Hid itm; rw [if_neg (by rw [HY1.out]; omega), HLO.out]
                rw [HI.out] at hsl
                dsimp only at hsl
                have HSL := Hid.mk' hsl
                clear hsl HI
                have hlh' : ¬ ((lo : Int) < (lo : Int)) := by omega
                have hlh2 : decide ((lo : Int) < (lo : Int)) = false := decide_eq_false hlh'
                go_wp2_with fail
                go_loopg [15] (lo + 1 - lo) (fun q x15 wx => ∃ cc : Nat, x15 = .int .i64 (cc : Int) ∧ lo ≤ cc ∧ q = lo + 1 - cc ∧ (cc ≤ lo + 1 ∨ cc = lo) ∧ cc ≤ 256 ∧ Hid (Below w.heap.size w wx) ∧ Hid (Blk wx w.heap.size 104 (sv fun _ => false)) ∧ Hid (Blk wx (w.heap.size + 1) 104 (sv fun x => s x || (decide (lo ≤ x) && decide (x < cc)))))
                case atStart =>
                  refine ⟨lo, rfl, Nat.le_refl _, rfl, .inr rfl, by omega, HB.out, K1.out, ?_⟩
                  rw [show (fun x => s x || (decide (lo ≤ x) && decide (x < lo))) = s by
                    funext x
                    by_cases hx : lo ≤ x
                    · have : ¬ x < lo := by omega
                      simp [this]
                    · simp [hx]]
                  exact K2.out
                case round =>
                  obtain ⟨cc, rfl, hc1, hq, hc2, hc3, HB5, K15, K25⟩ := hrel
                  by_cases hch : cc ≤ lo
                  · have hch' : (cc : Int) ≤ (lo : Int) := by omega
                    have hcn : (cc : Int) < 256 := by omega
                    obtain ⟨q, rfl⟩ : ∃ q, gk = q + 1 := ⟨gk - 1, by omega⟩
                    have c5 := K25.out.at74 (k := cc) (by omega)
                    have z5 := K25.out.frozen cc
                    go_wp2
                    go_roundg q
                    case measure => omega
                    case rel =>
                      refine ⟨cc + 1, by go_num, by omega, by omega, by omega, by omega, HB5.out.setCell (by show w.heap.size ≤ w.heap.size + 1; omega) _, K15.out.off (by omega) _, ?_⟩
                      have h9 := K25.out.set74 cc true
                      rw [show (fun x => if x = cc then true else (s x || (decide (lo ≤ x) && decide (x < cc)))) = fun x => s x || (decide (lo ≤ x) && decide (x < cc + 1)) by
                        funext x
                        by_cases e : x = cc
                        · subst e; simp; omega
                        · rw [if_neg e]
                          have e1 : decide (x < cc + 1) = decide (x < cc) := by apply decide_eq_decide.2; omega
                          rw [e1]] at h9
                      exact h9
                  · have hch' : ¬ ((cc : Int) ≤ (lo : Int)) := by omega
                    have HE : Hid ((fun x => s x || (decide (lo ≤ x) && decide (x < cc))) = fun x => s x || (decide (lo ≤ x) && decide (x ≤ lo))) := by
                      unfold Hid; funext x
                      by_cases hx : lo ≤ x
                      · have : decide (x < cc) = decide (x ≤ lo) := by apply decide_eq_decide.2; omega
                        rw [this]
                      · simp [hx]
                    have K26 := K25.out
                    rw [HE.out] at K26
                    have K27 := Hid.mk' K26
                    clear K26 K25 HE
                    go_wp2
                    go_roundg m
                    case measure => omega
                    case rel => exact ⟨j + 1, _, f, by go_num, rfl, by omega, by omega, by omega, by omega, HB5.out, K15.out, K27.out, by have := HSL.out; rw [if_neg (fun h => Nat.lt_irrefl _ h.1)] at this; exact this⟩
            · have h2' : ¬ ((j : Int) + 2 < (n : Int)) := by omega
              have h2d : decide ((j : Int) + 2 < (n : Int)) = false := decide_eq_false h2'
              have HI : Hid (itm p j = (lo, lo, 1)) := by unfold Hid itm; rw [if_neg (by omega), HLO.out]
              rw [HI.out] at hsl
              dsimp only at hsl
              have HSL := Hid.mk' hsl
              clear hsl HI
              have hlh' : ¬ ((lo : Int) < (lo : Int)) := by omega
              have hlh2 : decide ((lo : Int) < (lo : Int)) = false := decide_eq_false hlh'
              go_wp2_with fail
              go_loopg [15] (lo + 1 - lo) (fun q x15 wx => ∃ cc : Nat, x15 = .int .i64 (cc : Int) ∧ lo ≤ cc ∧ q = lo + 1 - cc ∧ (cc ≤ lo + 1 ∨ cc = lo) ∧ cc ≤ 256 ∧ Hid (Below w.heap.size w wx) ∧ Hid (Blk wx w.heap.size 104 (sv fun _ => false)) ∧ Hid (Blk wx (w.heap.size + 1) 104 (sv fun x => s x || (decide (lo ≤ x) && decide (x < cc)))))
              case atStart =>
                refine ⟨lo, rfl, Nat.le_refl _, rfl, .inr rfl, by omega, HB.out, K1.out, ?_⟩
                rw [show (fun x => s x || (decide (lo ≤ x) && decide (x < lo))) = s by
                  funext x
                  by_cases hx : lo ≤ x
                  · have : ¬ x < lo := by omega
                    simp [this]
                  · simp [hx]]
                exact K2.out
              case round =>
                obtain ⟨cc, rfl, hc1, hq, hc2, hc3, HB5, K15, K25⟩ := hrel
                by_cases hch : cc ≤ lo
                · have hch' : (cc : Int) ≤ (lo : Int) := by omega
                  have hcn : (cc : Int) < 256 := by omega
                  obtain ⟨q, rfl⟩ : ∃ q, gk = q + 1 := ⟨gk - 1, by omega⟩
                  have c5 := K25.out.at74 (k := cc) (by omega)
                  have z5 := K25.out.frozen cc
                  go_wp2
                  go_roundg q
                  case measure => omega
                  case rel =>
                    refine ⟨cc + 1, by go_num, by omega, by omega, by omega, by omega, HB5.out.setCell (by show w.heap.size ≤ w.heap.size + 1; omega) _, K15.out.off (by omega) _, ?_⟩
                    have h9 := K25.out.set74 cc true
                    rw [show (fun x => if x = cc then true else (s x || (decide (lo ≤ x) && decide (x < cc)))) = fun x => s x || (decide (lo ≤ x) && decide (x < cc + 1)) by
                      funext x
                      by_cases e : x = cc
                      · subst e; simp; omega
                      · rw [if_neg e]
                        have e1 : decide (x < cc + 1) = decide (x < cc) := by apply decide_eq_decide.2; omega
                        rw [e1]] at h9
                    exact h9
                · have hch' : ¬ ((cc : Int) ≤ (lo : Int)) := by omega
                  have HE : Hid ((fun x => s x || (decide (lo ≤ x) && decide (x < cc))) = fun x => s x || (decide (lo ≤ x) && decide (x ≤ lo))) := by
                    unfold Hid; funext x
                    by_cases hx : lo ≤ x
                    · have : decide (x < cc) = decide (x ≤ lo) := by apply decide_eq_decide.2; omega
                      rw [this]
                    · simp [hx]
                  have K26 := K25.out
                  rw [HE.out] at K26
                  have K27 := Hid.mk' K26
                  clear K26 K25 HE
                  go_wp2
                  go_roundg m
                  case measure => omega
                  case rel => exact ⟨j + 1, _, f, by go_num, rfl, by omega, by omega, by omega, by omega, HB5.out, K15.out, K27.out, by have := HSL.out; rw [if_neg (fun h => Nat.lt_irrefl _ h.1)] at this; exact this⟩
        · have hjn' : ¬ ((j : Int) < (n : Int)) := by omega
          have hjn2 : decide ((j : Int) < (n : Int)) = false := decide_eq_false hjn'
          have hcond : ¬ (j < p.length ∧ (j = (i + 1) ∨ bn p j ≠ 93)) := fun h => by omega
          have he := HL.out
          rw [sl_stop hcond] at he
          injection he with he1 he2
          injection he2 with he2 he3
          subst he1 he2 he3
          clear HL
          have hen : j = n := by omega
          have HEN := Hid.mk' hen
          clear hen
          have hge : (n : Int) ≤ (j : Int) := by omega
          go_wp2_with (first | (refine wl_load74 (.tmp 7) rfl rfl rfl K2.out ?_) | (refine wl_store74 (.tmp 4) (.tmp 109) rfl rfl rfl rfl K1.out ?_))
          have K := Hid.mk' (K1.out.put74 s)
          have B9 := Hid.mk' (below_setCells (Nat.le_refl w.heap.size) (svl s) 0 HB.out)
          change Hid (Below _ _ (put74 _ _ s)) at B9
          clear K1 K2
          generalize put74 wr w.heap.size s = W9 at *
          have hlv := lv74 K.out
          refine bodyPost_ret (v := .tuple #[.agg (sv s), .int .i64 (j : Int), .int .i64 ((i : Int) + 1 - 1)]) (by simp [results, Try.results61, asAddr, hlv]) rfl ?_
          exact HPost.out _ _ s B9.out (by rw [if_pos HEN.out, if_pos HEN.out, HEN.out, Int.add_sub_cancel]) (fun h => absurd HEN.out h)
    · have hfl' : ¬ ((i : Int) + 1 < (n : Int)) := by omega
      have hfl2 : decide ((i : Int) + 1 < (n : Int)) = false := decide_eq_false hfl'
      have he := HS.out
      rw [sl_stop (fun h => by omega)] at he
      injection he with he1 he2
      injection he2 with he2 he3
      subst he1 he2 he3
      have hge : (n : Int) ≤ (i : Int) + 1 := by omega
      have HEN : Hid (i + 1 = n) := by unfold Hid; omega
      clear HS h
      go_enter Try.func61, Try.ntmps61
      go_wp2_with fail
      go_loopg [1, 11, 12, 13, 14, 15] 1 (fun m x1 x11 x12 x13 x14 x15 wx => x1 = .int .i64 ((i : Int) + 1) ∧ x11 = .int .i64 (-1) ∧ Hid (Below w.heap.size w wx) ∧ Hid (Blk wx w.heap.size 104 (sv fun _ => false)) ∧ Hid (Blk wx (w.heap.size + 1) 104 (sv fun _ => false)))
      case atStart => exact ⟨rfl, rfl, B0.out, by rw [HSV.out]; exact H1.out, by rw [HSV.out]; exact H2.out⟩
      case round =>
        obtain ⟨rfl, rfl, HB, K1, K2⟩ := hrel
        go_wp2_with (first | (refine wl_load74 (.tmp 7) rfl rfl rfl K2.out ?_) | (refine wl_store74 (.tmp 4) (.tmp 109) rfl rfl rfl rfl K1.out ?_))
        have K := Hid.mk' (K1.out.put74 fun _ => false)
        have B9 := Hid.mk' (below_setCells (Nat.le_refl w.heap.size) (svl fun _ => false) 0 HB.out)
        change Hid (Below _ _ (put74 _ _ fun _ => false)) at B9
        clear K1 K2
        generalize put74 wr w.heap.size (fun _ => false) = W9 at *
        have hlv := lv74 K.out
        refine bodyPost_ret (v := .tuple #[.agg (sv fun _ => false), .int .i64 ((i : Int) + 1), .int .i64 ((i : Int) + 1 - 1)]) (by simp [results, Try.results61, asAddr, hlv]) rfl ?_
        exact HPost.out _ _ _ B9.out (by rw [if_pos HEN.out, if_pos HEN.out, Int.add_sub_cancel, ← HEN.out]; rfl) (fun h => absurd HEN.out h)
end Go.Proofs.Ytaakgoojcogbcaa
