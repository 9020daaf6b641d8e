/- The search of the reference. -/
import Derived.Test.YtaakgoojcogbcaaXp
namespace Go.Proofs.Ytaakgoojcogbcaa
open Go.RowKit
theorem tvl_bit (k : Nat) (s : Nat → Bool) {c : Nat} (hc : c < 256) : (tvl k s)[1 + c]? = some (.bool (s c)) := by
  rw [Nat.add_comm]
  unfold tvl
  rw [List.getElem?_cons_succ]
  simp [svl, hc]
set_option maxRecDepth 8000 in
set_option maxHeartbeats 16000000 in
theorem search_in (w : World) (av : Option Addr) (cv : Nat) (rl : List Th) (ao : Option Addr) (nl cl : Nat) (line : List UInt8) (f : Nat) (hf : f ≤ nl) (hl : rl.length ≤ 256) (HK : Hid (Kin rl)) (HR : Hid (Rts w av rl)) (HT : Hid (Tx w ao nl cl line)) :
    Calls Try.prog 34 #[.slice av rl.length cv, .slice ao nl cl, .int .i64 (f : Int)] w fun e w' => Fnd rl line (f : Int) w e w' := by
  have hlen := HT.out.len
  have hbig := HT.out.big
  have hbigN : line.length < N0 := by unfold N0; omega
  have hmx := mixed
  have hf1 : ¬ ((f : Int) < 0) := by omega
  have hf1d : decide ((f : Int) < 0) = false := decide_eq_false hf1
  have hf2 : ¬ ((nl : Int) < (f : Int)) := by omega
  have hf2d : decide ((nl : Int) < (f : Int)) = false := decide_eq_false hf2
  have hmk := run_ints (rl.length + 1) (by omega)
  rw [show ((rl.length + 1 : Nat) : Int) = (rl.length : Int) + 1 by omega] at hmk
  obtain ⟨NV, HNV⟩ : ∃ N, Hid (nva (fun _ => 0) (rl.length + 1) = N) := ⟨_, rfl⟩
  rw [HNV.out] at hmk
  have hlI : (rl.length : Int) ≤ 256 := by omega
  have hnI : (nl : Int) ≤ 140737488355328 := by omega
  go_enter Try.func34, Try.ntmps34
  go_wp2_with fail
  go_loopg [10] (rl.length + 1) (fun m x10 wx => ∃ i : Nat, x10 = .int .i64 (i : Int) ∧ i + m = rl.length + 1 ∧ Hid (Below w.heap.size w wx) ∧ Hid (Blk wx w.heap.size 3 (iva (fun j => if j < i then -1 else 0) (rl.length + 1))))
  case atStart =>
    refine ⟨0, rfl, by omega, bAlloc (Below.refl _ _) _, ?_⟩
    have : iva (fun j => if j < 0 then -1 else 0) (rl.length + 1) = NV := by
      rw [← HNV.out]; unfold iva nva; congr 1
    rw [this]; exact Blk.new _ _ _
  case round =>
    obtain ⟨i, rfl, him, HB, HBk⟩ := hrel
    cases gk with
    | succ m =>
      have hin : (i : Int) ≤ (rl.length : Int) := by omega
      have hin2 : (i : Int) < (rl.length : Int) + 1 := by omega
      have c1 := HBk.out.cell (iva_at _ (j := i) (by omega))
      have z1 := HBk.out.frozen i
      rw [if_neg (by omega)] at c1
      go_wp2
      go_roundg m
      case measure => omega
      case rel =>
        refine ⟨i + 1, by go_num, by omega, HB.out.setCell (Nat.le_refl _) _, ?_⟩
        have := HBk.out.set (j := i) (.int .i64 (-1))
        rw [iva_set] at this
        rw [iva_congr (h := fun j => if j < i + 1 then -1 else 0) (fun j hj => by
          by_cases e : j = i
          · rw [if_pos e, if_pos (by omega)]
          · rw [if_neg e]
            by_cases e2 : j < i
            · rw [if_pos e2, if_pos (by omega)]
            · rw [if_neg e2, if_neg (by omega)])] at this
        exact this
    | zero =>
      have hin : ¬ ((i : Int) ≤ (rl.length : Int)) := by omega
      have HB0 : Hid (Blk wr w.heap.size 3 (iva (fun j => rz (N0s j)) (rl.length + 1))) := by
        have := HBk.out
        rw [iva_congr (h := fun j => rz (N0s j)) (fun j hj => by rw [if_pos (by omega)]; unfold rz N0s; rw [if_pos rfl])] at this
        exact this
      go_wp2_with fail
      go_loopg [9, 11, 12, 13, 14, 15, 16, 17, 18, 19] (nl + 1 - f) (fun m x9 x11 x12 x13 x14 x15 x16 x17 x18 x19 wx => ∃ (p a b : Nat) (ok : Bool) (gb : Nat) (g : Nat → Nat), x14 = .int .i64 (p : Int) ∧ x11 = .int .i64 (a : Int) ∧ x12 = .int .i64 (b : Int) ∧ x13 = .bool ok ∧ x9 = .slice (some ⟨gb, 0, none⟩) (rl.length + 1) (rl.length + 1) ∧ f ≤ p ∧ p ≤ nl ∧ m = nl + 1 - p ∧ w.heap.size ≤ gb ∧ Hid (Below w.heap.size w wx) ∧ Hid (Blk wx gb 3 (iva (fun j => rz (g j)) (rl.length + 1))) ∧ Hid (PreR rl line f p g a b ok) ∧ Hid (∀ k, g k ≤ N0))
      case atStart => exact ⟨f, 0, 0, false, w.heap.size, N0s, rfl, rfl, rfl, rfl, rfl, Nat.le_refl _, hf, rfl, Nat.le_refl _, HB.out, HB0.out, PreR.start rl line f, fun _ => Nat.le_refl _⟩
      case round =>
        clear HB HBk HB0
        obtain ⟨p, a, b, ok, gb, g, rfl, rfl, rfl, rfl, rfl, hp1, hp2, hm, hgb, HB, HBk, HPre, HN⟩ := hrel
        have hp2' : (p : Int) ≤ (nl : Int) := by omega
        obtain ⟨G, HG⟩ : ∃ G, Hid (ins ok g p = G) := ⟨_, rfl⟩
        have HGN : Hid (∀ k, G k ≤ N0) := by rw [← HG.out]; exact ins_N0 HN.out
        have hl0 : (0 : Int) < (rl.length : Int) + 1 := by omega
        have r0 := HBk.out.cell (iva_at _ (j := 0) (by omega))
        have z0 := HBk.out.frozen 0
        cases ok with
        | false =>
          as_aux_lemma =>
            have CL0 := Hid.mk' (fun W => leastz_any (g 0) p (HN.out 0) (by omega) W)
            rw [show rz p = (p : Int) by unfold rz; rw [if_neg (by omega)]] at CL0
            go_wp2_with (go_at_call 62; refine (CL0.out _).mono ?_; rintro e w' ⟨rfl, hw⟩; subst hw)
            have KB : Hid (Blk (w'.setCell ⟨gb, 0, none⟩ (.int .i64 (rz (min (g 0) p)))) gb 3 (iva (fun j => rz (G j)) (rl.length + 1))) := by
              have := HBk.out.set (j := 0) (.int .i64 (rz (min (g 0) p)))
              rw [iva_set] at this
              rw [iva_congr (h := fun j => rz (G j)) (fun j hj => by
                rw [← HG.out, ins_store]
                dsimp only
                by_cases e : j = 0
                · rw [if_pos e, if_pos e]
                · rw [if_neg e, if_neg e])] at this
              exact this
            have LB : Hid (Below w.heap.size w (w'.setCell ⟨gb, 0, none⟩ (.int .i64 (rz (min (g 0) p))))) := HB.out.setCell hgb _
            clear r0 z0 CL0 HB HBk
            generalize w'.setCell ⟨gb, 0, none⟩ (.int .i64 (rz (min (g 0) p))) = wq at *
            have HQE : Hid (∀ k, Qn rl line p false a G k = prn false a (Un rl line p false a G k)) := Qn_Un rl line p false a G
            have HUN : Hid (∀ k, Un rl line p false a G k ≤ N0) := Un_N0 HGN.out
            go_loopg [11, 12, 13, 15, 16] (rl.length + 1) (fun m x11 x12 x13 x15 x16 wx => ∃ (i a1 b1 : Nat) (ok1 : Bool), x16 = .int .i64 (i : Int) ∧ x11 = .int .i64 (a1 : Int) ∧ x12 = .int .i64 (b1 : Int) ∧ x13 = .bool ok1 ∧ x15 = .bool (lv (Qn rl line p false a G) (min i rl.length)) ∧ i + m = rl.length + 1 ∧ Hid (i ≤ rl.length → a1 = a ∧ b1 = b ∧ ok1 = false) ∧ Hid (rl.length < i → Turns p (Qn rl line p false a G rl.length) a b false a1 b1 ok1) ∧ Hid (Below w.heap.size w wx) ∧ Hid (Blk wx gb 3 (iva (fun j => rz (uv rl line p false a G i j)) (rl.length + 1))))
            case atStart =>
              refine ⟨0, a, b, false, rfl, rfl, rfl, rfl, by simp [lv], by omega, fun _ => ⟨rfl, rfl, rfl⟩, fun h => by omega, LB.out, ?_⟩
              rw [iva_congr (h := fun j => rz (G j)) (fun j hj => by
                unfold uv
                rw [if_neg (by omega)]
                by_cases e : j = 0
                · rw [if_pos e, e]; rfl
                · rw [if_neg e])]
              exact KB.out
            case round =>
              clear LB KB
              obtain ⟨i, a1, b1, ok1, rfl, rfl, rfl, rfl, rfl, him, HU, HTn, LB, KB⟩ := hrel
              cases gk with
              | succ m2 =>
                have hin : (i : Int) ≤ (rl.length : Int) := by omega
                have hin2 : (i : Int) < (rl.length : Int) + 1 := by omega
                obtain ⟨e1, e2, e3⟩ := HU.out (by omega)
                subst e1 e2 e3
                clear HU HTn
                have c1 := KB.out.cell (iva_at _ (j := i) (by omega))
                have z1 := KB.out.frozen i
                rw [uv_at] at c1
                have hux := HUN.out i
                have hqe := HQE.out i
                obtain ⟨x, HX⟩ : ∃ x, Hid (Un rl line p false a1 G i = x) := ⟨_, rfl⟩
                rw [HX.out] at c1 hux hqe
                have HQI := Hid.mk' hqe
                clear hqe
                by_cases hx0 : x = N0
                · -- none
                  have hz1 : rz x = -1 := by unfold rz; rw [if_pos hx0]
                  rw [hz1] at c1
                  have HQ0 : Hid (Qn rl line p false a1 G i = N0) := by unfold Hid; rw [HQI.out, hx0]; unfold prn; split <;> rfl
                  have KB2 : Hid (Blk wr gb 3 (iva (fun j => rz (uv rl line p false a1 G (i + 1) j)) (rl.length + 1))) := by
                    have := KB.out
                    rw [iva_congr (h := fun j => rz (uv rl line p false a1 G (i + 1) j)) (fun j hj => by
                      rw [uv_step]
                      by_cases e : j = i + 1
                      · rw [if_pos e, e, uv_next]
                        congr 1
                        show _ = (if fr line (th rl i) p = true then min (G (i + 1)) (Qn rl line p false a1 G i) else G (i + 1))
                        rw [HQ0.out]
                        have := HGN.out (i + 1)
                        split <;> omega
                      · rw [if_neg e]
                        by_cases e2 : j = i
                        · rw [if_pos e2, e2, uv_at, HX.out, HQ0.out, hx0]
                        · rw [if_neg e2])] at this
                    exact this
                  clear hz1 hx0
                  have HLV : Hid (lv (Qn rl line p false a1 G) (min (i + 1) rl.length) = lv (Qn rl line p false a1 G) (min i rl.length)) := by
                    unfold Hid
                    by_cases h : i < rl.length
                    · rw [show min (i + 1) rl.length = i + 1 by omega, show min i rl.length = i by omega]
                      show (lv _ i || decide (Qn rl line p false a1 G i ≠ N0)) = _
                      rw [HQ0.out]; simp
                    · rw [show min (i + 1) rl.length = min i rl.length by omega]
                  go_wp2
                  go_roundg m2
                  case measure => omega
                  case rel => exact ⟨i + 1, a1, b1, false, by go_num, rfl, rfl, rfl, by rw [HLV.out], by omega, fun _ => ⟨rfl, rfl, rfl⟩, (fun h => .inr ⟨fun hh => hh.1 (by rw [← HQ0.out, show i = rl.length by omega]), rfl, rfl, rfl⟩), LB.out, KB2.out⟩
                · have hz1 : rz x = (x : Int) := by unfold rz; rw [if_neg hx0]
                  rw [hz1] at c1
                  have hx1 : ¬ ((x : Int) < 0) := by omega
                  have HZ1 := Hid.mk' hz1
                  clear hz1
                  have HQX : Hid (Qn rl line p false a1 G i = x) := by unfold Hid; rw [HQI.out]; unfold prn; rw [if_neg (fun h => by cases h.1)]
                  have HLV : Hid (i < rl.length → lv (Qn rl line p false a1 G) (min (i + 1) rl.length) = true) := fun h => by
                    rw [show min (i + 1) rl.length = i + 1 by omega]
                    show (lv _ i || decide (Qn rl line p false a1 G i ≠ N0)) = _
                    rw [HQX.out, decide_eq_true hx0, Bool.or_true]
                  by_cases hil : i = rl.length
                  · have hil' : ((i : Int) == (rl.length : Int)) = true := by simp; omega
                    have HIL := Hid.mk' hil
                    have KB2 : Hid (Blk wr gb 3 (iva (fun j => rz (uv rl line p false a1 G (i + 1) j)) (rl.length + 1))) := by
                      have := KB.out
                      rw [iva_congr (h := fun j => rz (uv rl line p false a1 G (i + 1) j)) (fun j hj => by
                        rw [uv_step, if_neg (by omega)]
                        by_cases e2 : j = i
                        · rw [if_pos e2, e2, uv_at, HX.out, HQX.out]
                        · rw [if_neg e2])] at this
                      exact this
                    have HLW : Hid (lv (Qn rl line p false a1 G) (min (i + 1) rl.length) = lv (Qn rl line p false a1 G) (min i rl.length)) := by
                      unfold Hid; rw [show min (i + 1) rl.length = min i rl.length by omega]
                    clear hil
                    go_wp2
                    go_roundg m2
                    case measure => omega
                    case rel => exact ⟨i + 1, x, p, true, by go_num, rfl, rfl, rfl, by rw [HLW.out], by omega, (fun h => by have := HIL.out; omega), (fun _ => .inl ⟨by rw [← HIL.out, HQX.out]; exact hx0, .inl rfl, by rw [← HIL.out, HQX.out], rfl, rfl⟩), LB.out, KB2.out⟩
                  · have hil' : ((i : Int) == (rl.length : Int)) = false := by simp; omega
                    have hilt : i < rl.length := by omega
                    obtain ⟨gt, eav, hrg⟩ := HR.out i hilt
                    subst eav
                    have hrg1 := Hid.mk' (range_keep hrg LB.out)
                    have hkk := kin_th HK.out hilt
                    have CP := Hid.mk' (passes_any wr ao nl cl line p (th rl i).k (th rl i).s hkk hp2 (HT.out.keep LB.out))
                    have hig : (i : Int) < (rl.length : Int) := by omega
                    obtain ⟨F, HF⟩ : ∃ F, Hid (fr line (th rl i) p = F) := ⟨_, rfl⟩
                    rw [show (⟨(th rl i).k, (th rl i).s⟩ : Th) = th rl i from rfl, HF.out] at CP
                    obtain ⟨TV, HTV⟩ : ∃ T, Hid (tv (th rl i).k (th rl i).s = T) := ⟨_, rfl⟩
                    cases F with
                    | false =>
                      go_wp2_with (first | (refine wl_load76at (k := (th rl i).k) (f := (th rl i).s) (.tmp 91) rfl rfl rfl hrg1.out ?_) | (go_at_call 63; refine CP.out.mono ?_; rintro e wP ⟨rfl, hbP⟩))
                      go_roundg m2
                      case measure => omega
                      case rel =>
                        refine ⟨i + 1, a1, b1, false, by go_num, rfl, rfl, rfl, by rw [HLV.out hilt], by omega, fun _ => ⟨rfl, rfl, rfl⟩, (fun h => by omega), bT LB.out hbP, ?_⟩
                        have := KB.out.keep hbP
                        rw [iva_congr (h := fun j => rz (uv rl line p false a1 G (i + 1) j)) (fun j hj => by
                          rw [uv_step]
                          by_cases e : j = i + 1
                          · rw [if_pos e, e, uv_next]
                            congr 1
                            show _ = (if fr line (th rl i) p = true then min (G (i + 1)) (Qn rl line p false a1 G i) else G (i + 1))
                            rw [HF.out]; rfl
                          · rw [if_neg e]
                            by_cases e2 : j = i
                            · rw [if_pos e2, e2, uv_at, HX.out, HQX.out]
                            · rw [if_neg e2])] at this
                        exact this
                    | true =>
                      have CL := Hid.mk' (fun W => leastz_any (G (i + 1)) x (HGN.out _) hux W)
                      rw [HZ1.out] at CL
                      have hi3 : (i : Int) + 1 < (rl.length : Int) + 1 := by omega
                      have hi4 : ((i : Int) + 1).toNat = i + 1 := by omega
                      have hi5 : (i : Int) ≤ 256 := by omega
                      have hi6 : (i : Int) + 1 ≤ 257 := by omega
                      have hi7 : (0 : Int) ≤ (i : Int) + 1 := by omega
                      have hi8 : i + 1 < rl.length + 1 := by omega
                      have hwr : IntKind.i64.wrap ((i : Int) + 1) = (i : Int) + 1 := by rw [IntKind.wrap_i64]; omega
                      go_wp2_with (first | (refine wl_load76at (k := (th rl i).k) (f := (th rl i).s) (.tmp 91) rfl rfl rfl hrg1.out ?_) | (go_at_call 63; refine CP.out.mono ?_; rintro e wP ⟨rfl, hbP⟩))
                      have KP := Hid.mk' (KB.out.keep hbP)
                      have LP := Hid.mk' (bT LB.out hbP)
                      have p1 := KP.out.cell (iva_at _ (j := i) (by omega))
                      have p2 := KP.out.cell (iva_at _ (j := i + 1) (by omega))
                      have pz := KP.out.frozen (i + 1)
                      rw [uv_at, HX.out, HZ1.out] at p1
                      rw [uv_next] at p2
                      clear hbP c1 z1 KB LB CP
                      refine wp_region_still_tail 13 hmx (by kernel_rfl) ?_
                      simp only [List.take_succ_cons, List.take_zero, List.drop_succ_cons, List.drop_zero]
                      repeat still_step
                      still_call (CL.out _)
                      repeat still_step
                      try refine wpStill_nil ?_
                      all_goals go_wp2_with fail
                      all_goals go_roundg m2
                      all_goals try omega
                      all_goals
                        refine ⟨i + 1, a1, b1, false, by go_num, rfl, rfl, rfl, by rw [HLV.out hilt], by omega, fun _ => ⟨rfl, rfl, rfl⟩, (fun h => by omega), ?_, ?_⟩
                        · first | exact (LP.out.setCell hgb _).drew | exact LP.out.drew.setCell hgb _ | exact (LP.out.setCell hgb _)
                        · have h9 := KP.out.set (j := i + 1) (.int .i64 (rz (min (G (i + 1)) x)))
                          rw [iva_set] at h9
                          rw [iva_congr (h := fun j => rz (uv rl line p false a1 G (i + 1) j)) (fun j hj => by
                            rw [uv_step]
                            by_cases e : j = i + 1
                            · rw [if_pos e, if_pos e]
                              congr 1
                              show _ = (if fr line (th rl i) p = true then min (G (i + 1)) (Qn rl line p false a1 G i) else G (i + 1))
                              rw [HF.out, HQX.out]; rfl
                            · rw [if_neg e, if_neg e]
                              by_cases e2 : j = i
                              · rw [if_pos e2, e2, uv_at, HX.out, HQX.out]
                              · rw [if_neg e2])] at h9
                          first | exact h9.keep (Below.refl _ _).drew | exact h9
              | zero =>
                have hin : ¬ ((i : Int) ≤ (rl.length : Int)) := by omega
                have hturn := HTn.out (by omega)
                have hpx := HPre.out.passed (by omega) hbigN HN.out (a' := a1) (b' := b1) (ok' := ok1) (by rw [HG.out]; exact hturn)
                rw [HG.out] at hpx
                have HPX := Hid.mk' hpx
                have HQN : Hid (∀ k, Qn rl line p false a G k ≤ N0) := Qn_N0 HGN.out
                have KBQ : Hid (Blk wr gb 3 (iva (fun j => rz (Qn rl line p false a G j)) (rl.length + 1))) := by
                  have := KB.out
                  rw [iva_congr (h := fun j => rz (Qn rl line p false a G j)) (fun j hj => by unfold uv; rw [if_pos (by omega)])] at this
                  exact this
                rw [show min i rl.length = rl.length by omega]
                obtain ⟨Q, HQ⟩ : ∃ Q, Hid (Qn rl line p false a G = Q) := ⟨_, rfl⟩
                rw [HQ.out] at HPX KBQ HQN ⊢
                clear hturn hpx KB HTn HU HQE HUN
                obtain ⟨LV, HLV⟩ : ∃ L, Hid (lv Q rl.length = L) := ⟨_, rfl⟩
                rw [HLV.out]
                by_cases hpn : p = nl
                · have hpn' : ((p : Int) == (nl : Int)) = true := by simp; omega
                  have HD : Hid (FS rl line f a1 b1 ok1) := by
                    have := HPX.out.1
                    rw [show p + 1 = line.length + 1 by omega] at this
                    exact this.done
                  clear hpn
                  go_wp2
                  go_ret3
                  exact ⟨a1, b1, ok1, rfl, .inr ⟨by omega, by omega, by rw [Int.toNat_natCast]; exact HD.out⟩, LB.out⟩
                · have hpn' : ((p : Int) == (nl : Int)) = false := by simp; omega
                  have hpl : (p : Int) < (nl : Int) := by omega
                  cases ok1 with
                  | false =>
                    -- what is next
                    obtain ⟨gl, ol, el, hcl⟩ := HT.out.at (by omega)
                    subst el
                    have cl9 := hcl p (by omega)
                    have hbx := bn_lt line p
                    rw [show ((at8 line p).toNat : Int) = ((bn line p : Nat) : Int) from rfl] at cl9
                    clear hcl
                    go_wp2_with fail
                    obtain ⟨W8, hW8⟩ : ∃ W8, W8 = wr := ⟨_, rfl⟩
                    subst hW8
                    go_loopg [18] (rl.length + 1) (fun m x18 wx => ∃ i : Nat, x18 = .int .i64 (i : Int) ∧ i + m = rl.length + 1 ∧ Hid (Below W8.heap.size W8 wx) ∧ Hid (Blk wx W8.heap.size 3 (iva (fun j => if j < i then -1 else 0) (rl.length + 1))))
                    case atStart =>
                      refine ⟨0, rfl, by omega, bAlloc (Below.refl _ _) _, ?_⟩
                      have : iva (fun j => if j < 0 then -1 else 0) (rl.length + 1) = NV := by
                        rw [← HNV.out]; unfold iva nva; congr 1
                      rw [this]; exact Blk.new _ _ _
                    case round =>
                      obtain ⟨i8, rfl, him8, HB8, HBk8⟩ := hrel
                      cases gk with
                      | succ m8 =>
                        have hin8 : (i8 : Int) ≤ (rl.length : Int) := by omega
                        have hin9 : (i8 : Int) < (rl.length : Int) + 1 := by omega
                        have c1 := HBk8.out.cell (iva_at _ (j := i8) (by omega))
                        have z1 := HBk8.out.frozen i8
                        rw [if_neg (by omega)] at c1
                        go_wp2
                        go_roundg m8
                        case measure => omega
                        case rel =>
                          refine ⟨i8 + 1, by go_num, by omega, HB8.out.setCell (Nat.le_refl _) _, ?_⟩
                          have := HBk8.out.set (j := i8) (.int .i64 (-1))
                          rw [iva_set] at this
                          rw [iva_congr (h := fun j => if j < i8 + 1 then -1 else 0) (fun j hj => by
                            by_cases e : j = i8
                            · rw [if_pos e, if_pos (by omega)]
                            · rw [if_neg e]
                              by_cases e2 : j < i8
                              · rw [if_pos e2, if_pos (by omega)]
                              · rw [if_neg e2, if_neg (by omega)])] at this
                          exact this
                      | zero =>
                        obtain ⟨nb, HNB⟩ : ∃ nb, Hid (nb = W8.heap.size) := ⟨_, rfl⟩
                        rw [← HNB.out] at HBk8 ⊢
                        have hin8 : ¬ ((i8 : Int) ≤ (rl.length : Int)) := by omega
                        have KR0 : Hid (Blk wr nb 3 (iva (fun j => rz (rv rl (bn line p) Q 0 j)) (rl.length + 1))) := by
                          have := HBk8.out
                          rw [iva_congr (h := fun j => rz (rv rl (bn line p) Q 0 j)) (fun j hj => by
                            rw [if_pos (by omega)]
                            have : rv rl (bn line p) Q 0 j = N0 := by unfold rv; rw [if_neg (by omega), if_neg (by omega)]; omega
                            rw [this]; unfold rz; rw [if_pos rfl])] at this
                          exact this
                        have KN0 := Hid.mk' (KBQ.out.keep HB8.out)
                        have LB0 := Hid.mk' (bT LB.out HB8.out)
                        have hnb : w.heap.size ≤ nb := by rw [HNB.out]; exact LB.out.size
                        have hne : gb ≠ nb := by have := KBQ.out.lt; rw [HNB.out]; omega
                        clear HBk8 HB8 HNB KBQ LB him8
                        go_wp2_with fail
                        go_loopg [19] rl.length (fun m x19 wx => ∃ i : Nat, x19 = .int .i64 (i : Int) ∧ i + m = rl.length ∧ Hid (Below w.heap.size w wx) ∧ Hid (Blk wx gb 3 (iva (fun j => rz (Q j)) (rl.length + 1))) ∧ Hid (Blk wx nb 3 (iva (fun j => rz (rv rl (bn line p) Q i j)) (rl.length + 1))))
                        case atStart => exact ⟨0, rfl, by omega, LB0.out, KN0.out, KR0.out⟩
                        case round =>
                          clear LB0 KN0 KR0
                          obtain ⟨i9, rfl, him9, LB9, KN9, KR9⟩ := hrel
                          cases gk with
                          | zero =>
                            have hin9 : ¬ ((i9 : Int) < (rl.length : Int)) := by omega
                            have KE : Hid (Blk wr nb 3 (iva (fun j => rz (Rn rl (bn line p) Q j)) (rl.length + 1))) := by
                              have := KR9.out
                              rw [iva_congr (h := fun j => rz (Rn rl (bn line p) Q j)) (fun j hj => by rw [show i9 = rl.length by omega, rv_end hj])] at this
                              exact this
                            have HNR : Hid (∀ k, Rn rl (bn line p) Q k ≤ N0) := fun k => Rn_N0 HQN.out k
                            clear KR9 KN9
                            go_wp2_with fail
                            go_roundg (nl - p)
                            case measure => omega
                            case rel => exact ⟨p + 1, a1, b1, false, nb, Rn rl (bn line p) Q, by go_num, rfl, rfl, rfl, rfl, by omega, by omega, by omega, hnb, LB9.out, KE.out, HPX.out.1, HNR.out⟩
                          | succ m9 =>
                            have hin9 : (i9 : Int) < (rl.length : Int) := by omega
                            have hin8' : (i9 : Int) < (rl.length : Int) + 1 := by omega
                            have hilt : i9 < rl.length := by omega
                            obtain ⟨gt, eav, hrg⟩ := HR.out i9 hilt
                            subst eav
                            have hrg1 := range_keep hrg LB9.out
                            have hkk := kin_th HK.out hilt
                            have c9 := KN9.out.cell (iva_at _ (j := i9) (by omega))
                            have hx9l := HQN.out i9
                            obtain ⟨x9, HX9⟩ : ∃ x, Hid (Q i9 = x) := ⟨_, rfl⟩
                            obtain ⟨k9, HK9⟩ : ∃ k, Hid ((th rl i9).k = k) := ⟨_, rfl⟩
                            obtain ⟨s9, HS9⟩ : ∃ s, Hid ((th rl i9).s = s) := ⟨_, rfl⟩
                            rw [HX9.out] at c9 hx9l
                            rw [HK9.out, HS9.out] at hrg1
                            rw [HK9.out] at hkk
                            have ck : wr.cell? ⟨gt, i9 * 257, none⟩ = some (.int .i64 (k9 : Int)) := by
                              have := hrg1 0 (.int .i64 (k9 : Int)) (by simp [tvl])
                              simpa using this
                            have cset : wr.cell? ⟨gt, i9 * 257 + 1 + bn line p, none⟩ = some (.bool (s9 (bn line p))) := by
                              have := hrg1 (1 + bn line p) (.bool (s9 (bn line p))) (tvl_bit k9 s9 hbx)
                              rw [← Nat.add_assoc] at this
                              exact this
                            have cn9 := keepC LB9.out cl9
                            obtain ⟨c9b, HC9⟩ : ∃ c, Hid (bn line p = c) := ⟨_, rfl⟩
                            clear hrg hrg1
                            by_cases hx0 : x9 = N0
                            · have hz : rz x9 = -1 := by unfold rz; rw [if_pos hx0]
                              rw [hz] at c9
                              have HP9 : Hid (rv rl (bn line p) Q (i9 + 1) = rv rl (bn line p) Q i9) := rv_skip (.inl (by rw [HX9.out, hx0]))
                              clear hx0 hz cset
                              go_wp2_with fail
                              go_quiet (fail)
                              go_wp2_with fail
                              go_roundg m9
                              case measure => omega
                              case rel => exact ⟨i9 + 1, by go_num, by omega, bT LB9.out (bDrewN _ _), KN9.out.keep (bDrewN _ _), by have := KR9.out.keep (bDrewN wr nq); rw [← HP9.out] at this; exact this⟩
                            · have HZ9 : Hid (rz x9 = (x9 : Int)) := by unfold Hid rz; rw [if_neg hx0]
                              rw [HZ9.out] at c9
                              have hx0' : decide ((x9 : Int) < 0) = false := decide_eq_false (by omega)
                              have hx0n : ¬ ((x9 : Int) < 0) := by omega
                              by_cases hk1 : 1 < k9
                              · have hk1' : decide ((1 : Int) < (k9 : Int)) = true := decide_eq_true (by omega)
                                have hk1n : (1 : Int) < (k9 : Int) := by omega
                                have HP9 : Hid (rv rl (bn line p) Q (i9 + 1) = rv rl (bn line p) Q i9) := rv_skip (.inr (by unfold tk1 tkm; rw [HK9.out, decide_eq_false (by omega), decide_eq_false (by omega)]; exact ⟨rfl, rfl⟩))
                                clear cset
                                go_wp2_with fail
                                go_quiet (fail)
                                go_wp2_with fail
                                go_roundg m9
                                case measure => omega
                                case rel => exact ⟨i9 + 1, by go_num, by omega, bT LB9.out (bDrewN _ _), KN9.out.keep (bDrewN _ _), by have := KR9.out.keep (bDrewN wr nq); rw [← HP9.out] at this; exact this⟩
                              · have hk1' : decide ((1 : Int) < (k9 : Int)) = false := decide_eq_false (by omega)
                                have hk1n : ¬ ((1 : Int) < (k9 : Int)) := by omega
                                have hcb : ((bn line p : Nat) : Int) < 256 := by omega
                                cases hsb : s9 (bn line p) with
                                | false =>
                                  have HP9 : Hid (rv rl (bn line p) Q (i9 + 1) = rv rl (bn line p) Q i9) := rv_skip (.inr (by unfold tk1 tkm; rw [HS9.out, hsb]; simp))
                                  rw [hsb] at cset
                                  clear hsb
                                  go_wp2_with fail
                                  go_quiet (fail)
                                  go_wp2_with fail
                                  go_roundg m9
                                  case measure => omega
                                  case rel => exact ⟨i9 + 1, by go_num, by omega, bT LB9.out (bDrewN _ _), KN9.out.keep (bDrewN _ _), by have := KR9.out.keep (bDrewN wr nq); rw [← HP9.out] at this; exact this⟩
                                | true =>
                                  rw [hsb] at cset
                                  by_cases hk9 : k9 = 1
                                  · have hk9' : ((k9 : Int) == 1) = true := by simp; omega
                                    have HTM : tkm (th rl i9) (bn line p) = true := by unfold tkm; rw [HK9.out, HS9.out, hsb, decide_eq_true hk9]; rfl
                                    have HRV := Hid.mk' (rv_many (l := rl) (b := bn line p) (g := Q) (k := i9) HQN.out HTM)
                                    clear hsb hk9 HTM
                                    go_wp2_with fail
                                    go_quiet (fail)
                                    have LP9 := Hid.mk' (bT LB9.out (bDrewN wr nq))
                                    have KNP := Hid.mk' (KN9.out.keep (bDrewN wr nq))
                                    have KRP := Hid.mk' (KR9.out.keep (bDrewN wr nq))
                                    have p1 := KNP.out.cell (iva_at _ (j := i9) (by omega))
                                    have p2 := KRP.out.cell (iva_at _ (j := i9) (by omega))
                                    have pz := KRP.out.frozen (i9)
                                    have ck2 := keepC (bDrewN wr nq) ck
                                    rw [HX9.out, HZ9.out] at p1
                                    obtain ⟨y9, HY9⟩ : ∃ y, Hid (rv rl (bn line p) Q i9 (i9) = y) := ⟨_, rfl⟩
                                    have hy9 : y9 ≤ N0 := by rw [← HY9.out]; exact rv_le rl _ Q i9 _ HQN.out
                                    rw [HY9.out] at p2
                                    have CL9 := Hid.mk' (fun W => leastz_any y9 x9 hy9 hx9l W)
                                    rw [HZ9.out] at CL9
                                    clear ck cset c9 cn9 LB9 KN9 KR9
                                    generalize wr.drewN nq = wp9 at *
                                    go_wp2_with fail
                                    refine wp_region_still_tail 11 hmx (by kernel_rfl) ?_
                                    simp only [List.take_succ_cons, List.take_zero, List.drop_succ_cons, List.drop_zero]
                                    repeat still_step
                                    still_call (CL9.out _)
                                    repeat still_step
                                    try refine wpStill_nil ?_
                                    all_goals go_wp2_with fail
                                    all_goals go_roundg m9
                                    all_goals try omega
                                    all_goals
                                      refine ⟨i9 + 1, by go_num, by omega, ?_, ?_, ?_⟩
                                      · first | exact (LP9.out.setCell hnb _).drew | exact LP9.out.drew.setCell hnb _ | exact (LP9.out.setCell hnb _)
                                      · first | exact (KNP.out.off hne _).keep (Below.refl _ _).drew | exact (KNP.out.keep (Below.refl _ _).drew).off hne _ | exact KNP.out.off hne _
                                      · have h9 := KRP.out.set (j := i9) (.int .i64 (rz (min y9 x9)))
                                        rw [iva_set] at h9
                                        rw [iva_congr (h := fun j => rz (rv rl (bn line p) Q (i9 + 1) j)) (fun j hj => by
                                          rw [HRV.out]
                                          dsimp only
                                          by_cases e : j = i9
                                          · rw [if_pos e, if_pos e, HY9.out, HX9.out]
                                          · rw [if_neg e, if_neg e])] at h9
                                        first | exact h9.keep (Below.refl _ _).drew | exact h9
                                  · have hk9' : ((k9 : Int) == 1) = false := by simp; omega
                                    have hk90 : k9 = 0 := by omega
                                    have HT1 : tk1 (th rl i9) (bn line p) = true := by unfold tk1; rw [HK9.out, HS9.out, hsb, decide_eq_true hk90]; rfl
                                    have HRV := Hid.mk' (rv_one (l := rl) (b := bn line p) (g := Q) (k := i9) HT1)
                                    have hi3 : (i9 : Int) + 1 < (rl.length : Int) + 1 := by omega
                                    have hi4 : ((i9 : Int) + 1).toNat = i9 + 1 := by omega
                                    have hi7 : (0 : Int) ≤ (i9 : Int) + 1 := by omega
                                    have hi8 : i9 + 1 < rl.length + 1 := by omega
                                    have hwr : IntKind.i64.wrap ((i9 : Int) + 1) = (i9 : Int) + 1 := by rw [IntKind.wrap_i64]; omega
                                    clear hsb HT1
                                    go_wp2_with fail
                                    go_quiet (fail)
                                    have LP9 := Hid.mk' (bT LB9.out (bDrewN wr nq))
                                    have KNP := Hid.mk' (KN9.out.keep (bDrewN wr nq))
                                    have KRP := Hid.mk' (KR9.out.keep (bDrewN wr nq))
                                    have p1 := KNP.out.cell (iva_at _ (j := i9) (by omega))
                                    have p2 := KRP.out.cell (iva_at _ (j := i9 + 1) (by omega))
                                    have pz := KRP.out.frozen (i9 + 1)
                                    have ck2 := keepC (bDrewN wr nq) ck
                                    rw [HX9.out, HZ9.out] at p1
                                    obtain ⟨y9, HY9⟩ : ∃ y, Hid (rv rl (bn line p) Q i9 (i9 + 1) = y) := ⟨_, rfl⟩
                                    have hy9 : y9 ≤ N0 := by rw [← HY9.out]; exact rv_le rl _ Q i9 _ HQN.out
                                    rw [HY9.out] at p2
                                    have CL9 := Hid.mk' (fun W => leastz_any y9 x9 hy9 hx9l W)
                                    rw [HZ9.out] at CL9
                                    clear ck cset c9 cn9 LB9 KN9 KR9
                                    generalize wr.drewN nq = wp9 at *
                                    go_wp2_with fail
                                    refine wp_region_still_tail 13 hmx (by kernel_rfl) ?_
                                    simp only [List.take_succ_cons, List.take_zero, List.drop_succ_cons, List.drop_zero]
                                    repeat still_step
                                    still_call (CL9.out _)
                                    repeat still_step
                                    try refine wpStill_nil ?_
                                    all_goals go_wp2_with fail
                                    all_goals go_roundg m9
                                    all_goals try omega
                                    all_goals
                                      refine ⟨i9 + 1, by go_num, by omega, ?_, ?_, ?_⟩
                                      · first | exact (LP9.out.setCell hnb _).drew | exact LP9.out.drew.setCell hnb _ | exact (LP9.out.setCell hnb _)
                                      · first | exact (KNP.out.off hne _).keep (Below.refl _ _).drew | exact (KNP.out.keep (Below.refl _ _).drew).off hne _ | exact KNP.out.off hne _
                                      · have h9 := KRP.out.set (j := i9 + 1) (.int .i64 (rz (min y9 x9)))
                                        rw [iva_set] at h9
                                        rw [iva_congr (h := fun j => rz (rv rl (bn line p) Q (i9 + 1) j)) (fun j hj => by
                                          rw [HRV.out]
                                          dsimp only
                                          by_cases e : j = i9 + 1
                                          · rw [if_pos e, if_pos e, HY9.out, HX9.out]
                                          · rw [if_neg e, if_neg e])] at h9
                                        first | exact h9.keep (Below.refl _ _).drew | exact h9
                  | true =>
                    cases LV with
                    | false =>
                      have HD : Hid (FS rl line f a1 b1 true) := HPX.out.2 rfl (lv_false HLV.out)
                      go_wp2
                      go_ret3
                      exact ⟨a1, b1, true, rfl, .inr ⟨by omega, by omega, by rw [Int.toNat_natCast]; exact HD.out⟩, LB.out⟩
                    | true =>
                      -- what is next
                      obtain ⟨gl, ol, el, hcl⟩ := HT.out.at (by omega)
                      subst el
                      have cl9 := hcl p (by omega)
                      have hbx := bn_lt line p
                      rw [show ((at8 line p).toNat : Int) = ((bn line p : Nat) : Int) from rfl] at cl9
                      clear hcl
                      go_wp2_with fail
                      obtain ⟨W8, hW8⟩ : ∃ W8, W8 = wr := ⟨_, rfl⟩
                      subst hW8
                      go_loopg [18] (rl.length + 1) (fun m x18 wx => ∃ i : Nat, x18 = .int .i64 (i : Int) ∧ i + m = rl.length + 1 ∧ Hid (Below W8.heap.size W8 wx) ∧ Hid (Blk wx W8.heap.size 3 (iva (fun j => if j < i then -1 else 0) (rl.length + 1))))
                      case atStart =>
                        refine ⟨0, rfl, by omega, bAlloc (Below.refl _ _) _, ?_⟩
                        have : iva (fun j => if j < 0 then -1 else 0) (rl.length + 1) = NV := by
                          rw [← HNV.out]; unfold iva nva; congr 1
                        rw [this]; exact Blk.new _ _ _
                      case round =>
                        obtain ⟨i8, rfl, him8, HB8, HBk8⟩ := hrel
                        cases gk with
                        | succ m8 =>
                          have hin8 : (i8 : Int) ≤ (rl.length : Int) := by omega
                          have hin9 : (i8 : Int) < (rl.length : Int) + 1 := by omega
                          have c1 := HBk8.out.cell (iva_at _ (j := i8) (by omega))
                          have z1 := HBk8.out.frozen i8
                          rw [if_neg (by omega)] at c1
                          go_wp2
                          go_roundg m8
                          case measure => omega
                          case rel =>
                            refine ⟨i8 + 1, by go_num, by omega, HB8.out.setCell (Nat.le_refl _) _, ?_⟩
                            have := HBk8.out.set (j := i8) (.int .i64 (-1))
                            rw [iva_set] at this
                            rw [iva_congr (h := fun j => if j < i8 + 1 then -1 else 0) (fun j hj => by
                              by_cases e : j = i8
                              · rw [if_pos e, if_pos (by omega)]
                              · rw [if_neg e]
                                by_cases e2 : j < i8
                                · rw [if_pos e2, if_pos (by omega)]
                                · rw [if_neg e2, if_neg (by omega)])] at this
                            exact this
                        | zero =>
                          obtain ⟨nb, HNB⟩ : ∃ nb, Hid (nb = W8.heap.size) := ⟨_, rfl⟩
                          rw [← HNB.out] at HBk8 ⊢
                          have hin8 : ¬ ((i8 : Int) ≤ (rl.length : Int)) := by omega
                          have KR0 : Hid (Blk wr nb 3 (iva (fun j => rz (rv rl (bn line p) Q 0 j)) (rl.length + 1))) := by
                            have := HBk8.out
                            rw [iva_congr (h := fun j => rz (rv rl (bn line p) Q 0 j)) (fun j hj => by
                              rw [if_pos (by omega)]
                              have : rv rl (bn line p) Q 0 j = N0 := by unfold rv; rw [if_neg (by omega), if_neg (by omega)]; omega
                              rw [this]; unfold rz; rw [if_pos rfl])] at this
                            exact this
                          have KN0 := Hid.mk' (KBQ.out.keep HB8.out)
                          have LB0 := Hid.mk' (bT LB.out HB8.out)
                          have hnb : w.heap.size ≤ nb := by rw [HNB.out]; exact LB.out.size
                          have hne : gb ≠ nb := by have := KBQ.out.lt; rw [HNB.out]; omega
                          clear HBk8 HB8 HNB KBQ LB him8
                          go_wp2_with fail
                          go_loopg [19] rl.length (fun m x19 wx => ∃ i : Nat, x19 = .int .i64 (i : Int) ∧ i + m = rl.length ∧ Hid (Below w.heap.size w wx) ∧ Hid (Blk wx gb 3 (iva (fun j => rz (Q j)) (rl.length + 1))) ∧ Hid (Blk wx nb 3 (iva (fun j => rz (rv rl (bn line p) Q i j)) (rl.length + 1))))
                          case atStart => exact ⟨0, rfl, by omega, LB0.out, KN0.out, KR0.out⟩
                          case round =>
                            clear LB0 KN0 KR0
                            obtain ⟨i9, rfl, him9, LB9, KN9, KR9⟩ := hrel
                            cases gk with
                            | zero =>
                              have hin9 : ¬ ((i9 : Int) < (rl.length : Int)) := by omega
                              have KE : Hid (Blk wr nb 3 (iva (fun j => rz (Rn rl (bn line p) Q j)) (rl.length + 1))) := by
                                have := KR9.out
                                rw [iva_congr (h := fun j => rz (Rn rl (bn line p) Q j)) (fun j hj => by rw [show i9 = rl.length by omega, rv_end hj])] at this
                                exact this
                              have HNR : Hid (∀ k, Rn rl (bn line p) Q k ≤ N0) := fun k => Rn_N0 HQN.out k
                              clear KR9 KN9
                              go_wp2_with fail
                              go_roundg (nl - p)
                              case measure => omega
                              case rel => exact ⟨p + 1, a1, b1, true, nb, Rn rl (bn line p) Q, by go_num, rfl, rfl, rfl, rfl, by omega, by omega, by omega, hnb, LB9.out, KE.out, HPX.out.1, HNR.out⟩
                            | succ m9 =>
                              have hin9 : (i9 : Int) < (rl.length : Int) := by omega
                              have hin8' : (i9 : Int) < (rl.length : Int) + 1 := by omega
                              have hilt : i9 < rl.length := by omega
                              obtain ⟨gt, eav, hrg⟩ := HR.out i9 hilt
                              subst eav
                              have hrg1 := range_keep hrg LB9.out
                              have hkk := kin_th HK.out hilt
                              have c9 := KN9.out.cell (iva_at _ (j := i9) (by omega))
                              have hx9l := HQN.out i9
                              obtain ⟨x9, HX9⟩ : ∃ x, Hid (Q i9 = x) := ⟨_, rfl⟩
                              obtain ⟨k9, HK9⟩ : ∃ k, Hid ((th rl i9).k = k) := ⟨_, rfl⟩
                              obtain ⟨s9, HS9⟩ : ∃ s, Hid ((th rl i9).s = s) := ⟨_, rfl⟩
                              rw [HX9.out] at c9 hx9l
                              rw [HK9.out, HS9.out] at hrg1
                              rw [HK9.out] at hkk
                              have ck : wr.cell? ⟨gt, i9 * 257, none⟩ = some (.int .i64 (k9 : Int)) := by
                                have := hrg1 0 (.int .i64 (k9 : Int)) (by simp [tvl])
                                simpa using this
                              have cset : wr.cell? ⟨gt, i9 * 257 + 1 + bn line p, none⟩ = some (.bool (s9 (bn line p))) := by
                                have := hrg1 (1 + bn line p) (.bool (s9 (bn line p))) (tvl_bit k9 s9 hbx)
                                rw [← Nat.add_assoc] at this
                                exact this
                              have cn9 := keepC LB9.out cl9
                              obtain ⟨c9b, HC9⟩ : ∃ c, Hid (bn line p = c) := ⟨_, rfl⟩
                              clear hrg hrg1
                              by_cases hx0 : x9 = N0
                              · have hz : rz x9 = -1 := by unfold rz; rw [if_pos hx0]
                                rw [hz] at c9
                                have HP9 : Hid (rv rl (bn line p) Q (i9 + 1) = rv rl (bn line p) Q i9) := rv_skip (.inl (by rw [HX9.out, hx0]))
                                clear hx0 hz cset
                                go_wp2_with fail
                                go_quiet (fail)
                                go_wp2_with fail
                                go_roundg m9
                                case measure => omega
                                case rel => exact ⟨i9 + 1, by go_num, by omega, bT LB9.out (bDrewN _ _), KN9.out.keep (bDrewN _ _), by have := KR9.out.keep (bDrewN wr nq); rw [← HP9.out] at this; exact this⟩
                              · have HZ9 : Hid (rz x9 = (x9 : Int)) := by unfold Hid rz; rw [if_neg hx0]
                                rw [HZ9.out] at c9
                                have hx0' : decide ((x9 : Int) < 0) = false := decide_eq_false (by omega)
                                have hx0n : ¬ ((x9 : Int) < 0) := by omega
                                by_cases hk1 : 1 < k9
                                · have hk1' : decide ((1 : Int) < (k9 : Int)) = true := decide_eq_true (by omega)
                                  have hk1n : (1 : Int) < (k9 : Int) := by omega
                                  have HP9 : Hid (rv rl (bn line p) Q (i9 + 1) = rv rl (bn line p) Q i9) := rv_skip (.inr (by unfold tk1 tkm; rw [HK9.out, decide_eq_false (by omega), decide_eq_false (by omega)]; exact ⟨rfl, rfl⟩))
                                  clear cset
                                  go_wp2_with fail
                                  go_quiet (fail)
                                  go_wp2_with fail
                                  go_roundg m9
                                  case measure => omega
                                  case rel => exact ⟨i9 + 1, by go_num, by omega, bT LB9.out (bDrewN _ _), KN9.out.keep (bDrewN _ _), by have := KR9.out.keep (bDrewN wr nq); rw [← HP9.out] at this; exact this⟩
                                · have hk1' : decide ((1 : Int) < (k9 : Int)) = false := decide_eq_false (by omega)
                                  have hk1n : ¬ ((1 : Int) < (k9 : Int)) := by omega
                                  have hcb : ((bn line p : Nat) : Int) < 256 := by omega
                                  cases hsb : s9 (bn line p) with
                                  | false =>
                                    have HP9 : Hid (rv rl (bn line p) Q (i9 + 1) = rv rl (bn line p) Q i9) := rv_skip (.inr (by unfold tk1 tkm; rw [HS9.out, hsb]; simp))
                                    rw [hsb] at cset
                                    clear hsb
                                    go_wp2_with fail
                                    go_quiet (fail)
                                    go_wp2_with fail
                                    go_roundg m9
                                    case measure => omega
                                    case rel => exact ⟨i9 + 1, by go_num, by omega, bT LB9.out (bDrewN _ _), KN9.out.keep (bDrewN _ _), by have := KR9.out.keep (bDrewN wr nq); rw [← HP9.out] at this; exact this⟩
                                  | true =>
                                    rw [hsb] at cset
                                    by_cases hk9 : k9 = 1
                                    · have hk9' : ((k9 : Int) == 1) = true := by simp; omega
                                      have HTM : tkm (th rl i9) (bn line p) = true := by unfold tkm; rw [HK9.out, HS9.out, hsb, decide_eq_true hk9]; rfl
                                      have HRV := Hid.mk' (rv_many (l := rl) (b := bn line p) (g := Q) (k := i9) HQN.out HTM)
                                      clear hsb hk9 HTM
                                      go_wp2_with fail
                                      go_quiet (fail)
                                      have LP9 := Hid.mk' (bT LB9.out (bDrewN wr nq))
                                      have KNP := Hid.mk' (KN9.out.keep (bDrewN wr nq))
                                      have KRP := Hid.mk' (KR9.out.keep (bDrewN wr nq))
                                      have p1 := KNP.out.cell (iva_at _ (j := i9) (by omega))
                                      have p2 := KRP.out.cell (iva_at _ (j := i9) (by omega))
                                      have pz := KRP.out.frozen (i9)
                                      have ck2 := keepC (bDrewN wr nq) ck
                                      rw [HX9.out, HZ9.out] at p1
                                      obtain ⟨y9, HY9⟩ : ∃ y, Hid (rv rl (bn line p) Q i9 (i9) = y) := ⟨_, rfl⟩
                                      have hy9 : y9 ≤ N0 := by rw [← HY9.out]; exact rv_le rl _ Q i9 _ HQN.out
                                      rw [HY9.out] at p2
                                      have CL9 := Hid.mk' (fun W => leastz_any y9 x9 hy9 hx9l W)
                                      rw [HZ9.out] at CL9
                                      clear ck cset c9 cn9 LB9 KN9 KR9
                                      generalize wr.drewN nq = wp9 at *
                                      go_wp2_with fail
                                      refine wp_region_still_tail 11 hmx (by kernel_rfl) ?_
                                      simp only [List.take_succ_cons, List.take_zero, List.drop_succ_cons, List.drop_zero]
                                      repeat still_step
                                      still_call (CL9.out _)
                                      repeat still_step
                                      try refine wpStill_nil ?_
                                      all_goals go_wp2_with fail
                                      all_goals go_roundg m9
                                      all_goals try omega
                                      all_goals
                                        refine ⟨i9 + 1, by go_num, by omega, ?_, ?_, ?_⟩
                                        · first | exact (LP9.out.setCell hnb _).drew | exact LP9.out.drew.setCell hnb _ | exact (LP9.out.setCell hnb _)
                                        · first | exact (KNP.out.off hne _).keep (Below.refl _ _).drew | exact (KNP.out.keep (Below.refl _ _).drew).off hne _ | exact KNP.out.off hne _
                                        · have h9 := KRP.out.set (j := i9) (.int .i64 (rz (min y9 x9)))
                                          rw [iva_set] at h9
                                          rw [iva_congr (h := fun j => rz (rv rl (bn line p) Q (i9 + 1) j)) (fun j hj => by
                                            rw [HRV.out]
                                            dsimp only
                                            by_cases e : j = i9
                                            · rw [if_pos e, if_pos e, HY9.out, HX9.out]
                                            · rw [if_neg e, if_neg e])] at h9
                                          first | exact h9.keep (Below.refl _ _).drew | exact h9
                                    · have hk9' : ((k9 : Int) == 1) = false := by simp; omega
                                      have hk90 : k9 = 0 := by omega
                                      have HT1 : tk1 (th rl i9) (bn line p) = true := by unfold tk1; rw [HK9.out, HS9.out, hsb, decide_eq_true hk90]; rfl
                                      have HRV := Hid.mk' (rv_one (l := rl) (b := bn line p) (g := Q) (k := i9) HT1)
                                      have hi3 : (i9 : Int) + 1 < (rl.length : Int) + 1 := by omega
                                      have hi4 : ((i9 : Int) + 1).toNat = i9 + 1 := by omega
                                      have hi7 : (0 : Int) ≤ (i9 : Int) + 1 := by omega
                                      have hi8 : i9 + 1 < rl.length + 1 := by omega
                                      have hwr : IntKind.i64.wrap ((i9 : Int) + 1) = (i9 : Int) + 1 := by rw [IntKind.wrap_i64]; omega
                                      clear hsb HT1
                                      go_wp2_with fail
                                      go_quiet (fail)
                                      have LP9 := Hid.mk' (bT LB9.out (bDrewN wr nq))
                                      have KNP := Hid.mk' (KN9.out.keep (bDrewN wr nq))
                                      have KRP := Hid.mk' (KR9.out.keep (bDrewN wr nq))
                                      have p1 := KNP.out.cell (iva_at _ (j := i9) (by omega))
                                      have p2 := KRP.out.cell (iva_at _ (j := i9 + 1) (by omega))
                                      have pz := KRP.out.frozen (i9 + 1)
                                      have ck2 := keepC (bDrewN wr nq) ck
                                      rw [HX9.out, HZ9.out] at p1
                                      obtain ⟨y9, HY9⟩ : ∃ y, Hid (rv rl (bn line p) Q i9 (i9 + 1) = y) := ⟨_, rfl⟩
                                      have hy9 : y9 ≤ N0 := by rw [← HY9.out]; exact rv_le rl _ Q i9 _ HQN.out
                                      rw [HY9.out] at p2
                                      have CL9 := Hid.mk' (fun W => leastz_any y9 x9 hy9 hx9l W)
                                      rw [HZ9.out] at CL9
                                      clear ck cset c9 cn9 LB9 KN9 KR9
                                      generalize wr.drewN nq = wp9 at *
                                      go_wp2_with fail
                                      refine wp_region_still_tail 13 hmx (by kernel_rfl) ?_
                                      simp only [List.take_succ_cons, List.take_zero, List.drop_succ_cons, List.drop_zero]
                                      repeat still_step
                                      still_call (CL9.out _)
                                      repeat still_step
                                      try refine wpStill_nil ?_
                                      all_goals go_wp2_with fail
                                      all_goals go_roundg m9
                                      all_goals try omega
                                      all_goals
                                        refine ⟨i9 + 1, by go_num, by omega, ?_, ?_, ?_⟩
                                        · first | exact (LP9.out.setCell hnb _).drew | exact LP9.out.drew.setCell hnb _ | exact (LP9.out.setCell hnb _)
                                        · first | exact (KNP.out.off hne _).keep (Below.refl _ _).drew | exact (KNP.out.keep (Below.refl _ _).drew).off hne _ | exact KNP.out.off hne _
                                        · have h9 := KRP.out.set (j := i9 + 1) (.int .i64 (rz (min y9 x9)))
                                          rw [iva_set] at h9
                                          rw [iva_congr (h := fun j => rz (rv rl (bn line p) Q (i9 + 1) j)) (fun j hj => by
                                            rw [HRV.out]
                                            dsimp only
                                            by_cases e : j = i9 + 1
                                            · rw [if_pos e, if_pos e, HY9.out, HX9.out]
                                            · rw [if_neg e, if_neg e])] at h9
                                          first | exact h9.keep (Below.refl _ _).drew | exact h9
        | true =>
          as_aux_lemma =>
            have HGg : Hid (G = g) := by rw [← HG.out]; rfl
            have KB : Hid (Blk wr gb 3 (iva (fun j => rz (G j)) (rl.length + 1))) := by rw [HGg.out]; exact HBk.out
            have LB := HB
            clear r0 z0 HB HBk
            go_wp2_with fail
            have HQE : Hid (∀ k, Qn rl line p true a G k = prn true a (Un rl line p true a G k)) := Qn_Un rl line p true a G
            have HUN : Hid (∀ k, Un rl line p true a G k ≤ N0) := Un_N0 HGN.out
            go_loopg [11, 12, 13, 15, 16] (rl.length + 1) (fun m x11 x12 x13 x15 x16 wx => ∃ (i a1 b1 : Nat) (ok1 : Bool), x16 = .int .i64 (i : Int) ∧ x11 = .int .i64 (a1 : Int) ∧ x12 = .int .i64 (b1 : Int) ∧ x13 = .bool ok1 ∧ x15 = .bool (lv (Qn rl line p true a G) (min i rl.length)) ∧ i + m = rl.length + 1 ∧ Hid (i ≤ rl.length → a1 = a ∧ b1 = b ∧ ok1 = true) ∧ Hid (rl.length < i → Turns p (Qn rl line p true a G rl.length) a b true a1 b1 ok1) ∧ Hid (Below w.heap.size w wx) ∧ Hid (Blk wx gb 3 (iva (fun j => rz (uv rl line p true a G i j)) (rl.length + 1))))
            case atStart =>
              refine ⟨0, a, b, true, rfl, rfl, rfl, rfl, by simp [lv], by omega, fun _ => ⟨rfl, rfl, rfl⟩, fun h => by omega, LB.out, ?_⟩
              rw [iva_congr (h := fun j => rz (G j)) (fun j hj => by
                unfold uv
                rw [if_neg (by omega)]
                by_cases e : j = 0
                · rw [if_pos e, e]; rfl
                · rw [if_neg e])]
              exact KB.out
            case round =>
              clear LB KB
              obtain ⟨i, a1, b1, ok1, rfl, rfl, rfl, rfl, rfl, him, HU, HTn, LB, KB⟩ := hrel
              cases gk with
              | succ m2 =>
                have hin : (i : Int) ≤ (rl.length : Int) := by omega
                have hin2 : (i : Int) < (rl.length : Int) + 1 := by omega
                obtain ⟨e1, e2, e3⟩ := HU.out (by omega)
                subst e1 e2 e3
                clear HU HTn
                have c1 := KB.out.cell (iva_at _ (j := i) (by omega))
                have z1 := KB.out.frozen i
                rw [uv_at] at c1
                have hux := HUN.out i
                have hqe := HQE.out i
                obtain ⟨x, HX⟩ : ∃ x, Hid (Un rl line p true a1 G i = x) := ⟨_, rfl⟩
                rw [HX.out] at c1 hux hqe
                have HQI := Hid.mk' hqe
                clear hqe
                by_cases hx0 : x = N0
                · -- none
                  have hz1 : rz x = -1 := by unfold rz; rw [if_pos hx0]
                  rw [hz1] at c1
                  have HQ0 : Hid (Qn rl line p true a1 G i = N0) := by unfold Hid; rw [HQI.out, hx0]; unfold prn; split <;> rfl
                  have KB2 : Hid (Blk wr gb 3 (iva (fun j => rz (uv rl line p true a1 G (i + 1) j)) (rl.length + 1))) := by
                    have := KB.out
                    rw [iva_congr (h := fun j => rz (uv rl line p true a1 G (i + 1) j)) (fun j hj => by
                      rw [uv_step]
                      by_cases e : j = i + 1
                      · rw [if_pos e, e, uv_next]
                        congr 1
                        show _ = (if fr line (th rl i) p = true then min (G (i + 1)) (Qn rl line p true a1 G i) else G (i + 1))
                        rw [HQ0.out]
                        have := HGN.out (i + 1)
                        split <;> omega
                      · rw [if_neg e]
                        by_cases e2 : j = i
                        · rw [if_pos e2, e2, uv_at, HX.out, HQ0.out, hx0]
                        · rw [if_neg e2])] at this
                    exact this
                  clear hz1 hx0
                  have HLV : Hid (lv (Qn rl line p true a1 G) (min (i + 1) rl.length) = lv (Qn rl line p true a1 G) (min i rl.length)) := by
                    unfold Hid
                    by_cases h : i < rl.length
                    · rw [show min (i + 1) rl.length = i + 1 by omega, show min i rl.length = i by omega]
                      show (lv _ i || decide (Qn rl line p true a1 G i ≠ N0)) = _
                      rw [HQ0.out]; simp
                    · rw [show min (i + 1) rl.length = min i rl.length by omega]
                  go_wp2
                  go_roundg m2
                  case measure => omega
                  case rel => exact ⟨i + 1, a1, b1, true, by go_num, rfl, rfl, rfl, by rw [HLV.out], by omega, fun _ => ⟨rfl, rfl, rfl⟩, (fun h => .inr ⟨fun hh => hh.1 (by rw [← HQ0.out, show i = rl.length by omega]), rfl, rfl, rfl⟩), LB.out, KB2.out⟩
                · have hz1 : rz x = (x : Int) := by unfold rz; rw [if_neg hx0]
                  rw [hz1] at c1
                  have hx1 : ¬ ((x : Int) < 0) := by omega
                  have HZ1 := Hid.mk' hz1
                  clear hz1
                  by_cases hxa : a1 < x
                  · -- too late
                    have hxa' : decide ((a1 : Int) < (x : Int)) = true := decide_eq_true (by omega)
                    have hxan : (a1 : Int) < (x : Int) := by omega
                    have HQ0 : Hid (Qn rl line p true a1 G i = N0) := by unfold Hid; rw [HQI.out]; unfold prn; rw [if_pos ⟨rfl, hxa⟩]
                    have KB2 : Hid (Blk (wr.setCell ⟨gb, i, none⟩ (.int .i64 (-1))) gb 3 (iva (fun j => rz (uv rl line p true a1 G (i + 1) j)) (rl.length + 1))) := by
                      have := KB.out.set (j := i) (.int .i64 (-1))
                      rw [iva_set] at this
                      rw [iva_congr (h := fun j => rz (uv rl line p true a1 G (i + 1) j)) (fun j hj => by
                        rw [uv_step]
                        by_cases e : j = i + 1
                        · rw [if_neg (by omega), if_pos e, e, uv_next]
                          congr 1
                          show _ = (if fr line (th rl i) p = true then min (G (i + 1)) (Qn rl line p true a1 G i) else G (i + 1))
                          rw [HQ0.out]
                          have := HGN.out (i + 1)
                          split <;> omega
                        · rw [if_neg e]
                          by_cases e2 : j = i
                          · rw [if_pos e2, if_pos e2, HQ0.out]; unfold rz; rw [if_pos rfl]
                          · rw [if_neg e2, if_neg e2])] at this
                      exact this
                    have HLV : Hid (lv (Qn rl line p true a1 G) (min (i + 1) rl.length) = lv (Qn rl line p true a1 G) (min i rl.length)) := by
                      unfold Hid
                      by_cases h : i < rl.length
                      · rw [show min (i + 1) rl.length = i + 1 by omega, show min i rl.length = i by omega]
                        show (lv _ i || decide (Qn rl line p true a1 G i ≠ N0)) = _
                        rw [HQ0.out]; simp
                      · rw [show min (i + 1) rl.length = min i rl.length by omega]
                    clear hxa
                    go_wp2
                    go_roundg m2
                    case measure => omega
                    case rel => exact ⟨i + 1, a1, b1, true, by go_num, rfl, rfl, rfl, by rw [HLV.out], by omega, fun _ => ⟨rfl, rfl, rfl⟩, (fun h => .inr ⟨fun hh => hh.1 (by rw [← HQ0.out, show i = rl.length by omega]), rfl, rfl, rfl⟩), LB.out.setCell hgb _, KB2.out⟩
                  · have hxa' : decide ((a1 : Int) < (x : Int)) = false := decide_eq_false (by omega)
                    have hxan : ¬ ((a1 : Int) < (x : Int)) := by omega
                    have HQX : Hid (Qn rl line p true a1 G i = x) := by unfold Hid; rw [HQI.out]; unfold prn; rw [if_neg (fun h => hxa h.2)]
                    have HLV : Hid (i < rl.length → lv (Qn rl line p true a1 G) (min (i + 1) rl.length) = true) := fun h => by
                      rw [show min (i + 1) rl.length = i + 1 by omega]
                      show (lv _ i || decide (Qn rl line p true a1 G i ≠ N0)) = _
                      rw [HQX.out, decide_eq_true hx0, Bool.or_true]
                    by_cases hil : i = rl.length
                    · have hil' : ((i : Int) == (rl.length : Int)) = true := by simp; omega
                      have HIL := Hid.mk' hil
                      have KB2 : Hid (Blk wr gb 3 (iva (fun j => rz (uv rl line p true a1 G (i + 1) j)) (rl.length + 1))) := by
                        have := KB.out
                        rw [iva_congr (h := fun j => rz (uv rl line p true a1 G (i + 1) j)) (fun j hj => by
                          rw [uv_step, if_neg (by omega)]
                          by_cases e2 : j = i
                          · rw [if_pos e2, e2, uv_at, HX.out, HQX.out]
                          · rw [if_neg e2])] at this
                        exact this
                      have HLW : Hid (lv (Qn rl line p true a1 G) (min (i + 1) rl.length) = lv (Qn rl line p true a1 G) (min i rl.length)) := by
                        unfold Hid; rw [show min (i + 1) rl.length = min i rl.length by omega]
                      clear hil
                      go_wp2
                      go_roundg m2
                      case measure => omega
                      case rel => exact ⟨i + 1, x, p, true, by go_num, rfl, rfl, rfl, by rw [HLW.out], by omega, (fun h => by have := HIL.out; omega), (fun _ => .inl ⟨by rw [← HIL.out, HQX.out]; exact hx0, .inr (by rw [← HIL.out, HQX.out]; omega), by rw [← HIL.out, HQX.out], rfl, rfl⟩), LB.out, KB2.out⟩
                    · have hil' : ((i : Int) == (rl.length : Int)) = false := by simp; omega
                      have hilt : i < rl.length := by omega
                      obtain ⟨gt, eav, hrg⟩ := HR.out i hilt
                      subst eav
                      have hrg1 := Hid.mk' (range_keep hrg LB.out)
                      have hkk := kin_th HK.out hilt
                      have CP := Hid.mk' (passes_any wr ao nl cl line p (th rl i).k (th rl i).s hkk hp2 (HT.out.keep LB.out))
                      have hig : (i : Int) < (rl.length : Int) := by omega
                      obtain ⟨F, HF⟩ : ∃ F, Hid (fr line (th rl i) p = F) := ⟨_, rfl⟩
                      rw [show (⟨(th rl i).k, (th rl i).s⟩ : Th) = th rl i from rfl, HF.out] at CP
                      obtain ⟨TV, HTV⟩ : ∃ T, Hid (tv (th rl i).k (th rl i).s = T) := ⟨_, rfl⟩
                      cases F with
                      | false =>
                        go_wp2_with (first | (refine wl_load76at (k := (th rl i).k) (f := (th rl i).s) (.tmp 91) rfl rfl rfl hrg1.out ?_) | (go_at_call 63; refine CP.out.mono ?_; rintro e wP ⟨rfl, hbP⟩))
                        go_roundg m2
                        case measure => omega
                        case rel =>
                          refine ⟨i + 1, a1, b1, true, by go_num, rfl, rfl, rfl, by rw [HLV.out hilt], by omega, fun _ => ⟨rfl, rfl, rfl⟩, (fun h => by omega), bT LB.out hbP, ?_⟩
                          have := KB.out.keep hbP
                          rw [iva_congr (h := fun j => rz (uv rl line p true a1 G (i + 1) j)) (fun j hj => by
                            rw [uv_step]
                            by_cases e : j = i + 1
                            · rw [if_pos e, e, uv_next]
                              congr 1
                              show _ = (if fr line (th rl i) p = true then min (G (i + 1)) (Qn rl line p true a1 G i) else G (i + 1))
                              rw [HF.out]; rfl
                            · rw [if_neg e]
                              by_cases e2 : j = i
                              · rw [if_pos e2, e2, uv_at, HX.out, HQX.out]
                              · rw [if_neg e2])] at this
                          exact this
                      | true =>
                        have CL := Hid.mk' (fun W => leastz_any (G (i + 1)) x (HGN.out _) hux W)
                        rw [HZ1.out] at CL
                        have hi3 : (i : Int) + 1 < (rl.length : Int) + 1 := by omega
                        have hi4 : ((i : Int) + 1).toNat = i + 1 := by omega
                        have hi5 : (i : Int) ≤ 256 := by omega
                        have hi6 : (i : Int) + 1 ≤ 257 := by omega
                        have hi7 : (0 : Int) ≤ (i : Int) + 1 := by omega
                        have hi8 : i + 1 < rl.length + 1 := by omega
                        have hwr : IntKind.i64.wrap ((i : Int) + 1) = (i : Int) + 1 := by rw [IntKind.wrap_i64]; omega
                        go_wp2_with (first | (refine wl_load76at (k := (th rl i).k) (f := (th rl i).s) (.tmp 91) rfl rfl rfl hrg1.out ?_) | (go_at_call 63; refine CP.out.mono ?_; rintro e wP ⟨rfl, hbP⟩))
                        have KP := Hid.mk' (KB.out.keep hbP)
                        have LP := Hid.mk' (bT LB.out hbP)
                        have p1 := KP.out.cell (iva_at _ (j := i) (by omega))
                        have p2 := KP.out.cell (iva_at _ (j := i + 1) (by omega))
                        have pz := KP.out.frozen (i + 1)
                        rw [uv_at, HX.out, HZ1.out] at p1
                        rw [uv_next] at p2
                        clear hbP c1 z1 KB LB CP
                        refine wp_region_still_tail 13 hmx (by kernel_rfl) ?_
                        simp only [List.take_succ_cons, List.take_zero, List.drop_succ_cons, List.drop_zero]
                        repeat still_step
                        still_call (CL.out _)
                        repeat still_step
                        try refine wpStill_nil ?_
                        all_goals go_wp2_with fail
                        all_goals go_roundg m2
                        all_goals try omega
                        all_goals
                          refine ⟨i + 1, a1, b1, true, by go_num, rfl, rfl, rfl, by rw [HLV.out hilt], by omega, fun _ => ⟨rfl, rfl, rfl⟩, (fun h => by omega), ?_, ?_⟩
                          · first | exact (LP.out.setCell hgb _).drew | exact LP.out.drew.setCell hgb _ | exact (LP.out.setCell hgb _)
                          · have h9 := KP.out.set (j := i + 1) (.int .i64 (rz (min (G (i + 1)) x)))
                            rw [iva_set] at h9
                            rw [iva_congr (h := fun j => rz (uv rl line p true a1 G (i + 1) j)) (fun j hj => by
                              rw [uv_step]
                              by_cases e : j = i + 1
                              · rw [if_pos e, if_pos e]
                                congr 1
                                show _ = (if fr line (th rl i) p = true then min (G (i + 1)) (Qn rl line p true a1 G i) else G (i + 1))
                                rw [HF.out, HQX.out]; rfl
                              · rw [if_neg e, if_neg e]
                                by_cases e2 : j = i
                                · rw [if_pos e2, e2, uv_at, HX.out, HQX.out]
                                · rw [if_neg e2])] at h9
                            first | exact h9.keep (Below.refl _ _).drew | exact h9
              | zero =>
                have hin : ¬ ((i : Int) ≤ (rl.length : Int)) := by omega
                have hturn := HTn.out (by omega)
                have hpx := HPre.out.passed (by omega) hbigN HN.out (a' := a1) (b' := b1) (ok' := ok1) (by rw [HG.out]; exact hturn)
                rw [HG.out] at hpx
                have HPX := Hid.mk' hpx
                have HQN : Hid (∀ k, Qn rl line p true a G k ≤ N0) := Qn_N0 HGN.out
                have KBQ : Hid (Blk wr gb 3 (iva (fun j => rz (Qn rl line p true a G j)) (rl.length + 1))) := by
                  have := KB.out
                  rw [iva_congr (h := fun j => rz (Qn rl line p true a G j)) (fun j hj => by unfold uv; rw [if_pos (by omega)])] at this
                  exact this
                rw [show min i rl.length = rl.length by omega]
                obtain ⟨Q, HQ⟩ : ∃ Q, Hid (Qn rl line p true a G = Q) := ⟨_, rfl⟩
                rw [HQ.out] at HPX KBQ HQN ⊢
                have hok1 : ok1 = true := by rcases hturn with ⟨_, _, _, _, e⟩ | ⟨_, _, _, e⟩ <;> exact e
                subst hok1
                clear hturn hpx KB HTn HU HQE HUN
                obtain ⟨LV, HLV⟩ : ∃ L, Hid (lv Q rl.length = L) := ⟨_, rfl⟩
                rw [HLV.out]
                by_cases hpn : p = nl
                · have hpn' : ((p : Int) == (nl : Int)) = true := by simp; omega
                  have HD : Hid (FS rl line f a1 b1 true) := by
                    have := HPX.out.1
                    rw [show p + 1 = line.length + 1 by omega] at this
                    exact this.done
                  clear hpn
                  go_wp2
                  go_ret3
                  exact ⟨a1, b1, true, rfl, .inr ⟨by omega, by omega, by rw [Int.toNat_natCast]; exact HD.out⟩, LB.out⟩
                · have hpn' : ((p : Int) == (nl : Int)) = false := by simp; omega
                  have hpl : (p : Int) < (nl : Int) := by omega
                  cases LV with
                  | false =>
                    have HD : Hid (FS rl line f a1 b1 true) := HPX.out.2 rfl (lv_false HLV.out)
                    go_wp2
                    go_ret3
                    exact ⟨a1, b1, true, rfl, .inr ⟨by omega, by omega, by rw [Int.toNat_natCast]; exact HD.out⟩, LB.out⟩
                  | true =>
                    -- what is next
                    obtain ⟨gl, ol, el, hcl⟩ := HT.out.at (by omega)
                    subst el
                    have cl9 := hcl p (by omega)
                    have hbx := bn_lt line p
                    rw [show ((at8 line p).toNat : Int) = ((bn line p : Nat) : Int) from rfl] at cl9
                    clear hcl
                    go_wp2_with fail
                    obtain ⟨W8, hW8⟩ : ∃ W8, W8 = wr := ⟨_, rfl⟩
                    subst hW8
                    go_loopg [18] (rl.length + 1) (fun m x18 wx => ∃ i : Nat, x18 = .int .i64 (i : Int) ∧ i + m = rl.length + 1 ∧ Hid (Below W8.heap.size W8 wx) ∧ Hid (Blk wx W8.heap.size 3 (iva (fun j => if j < i then -1 else 0) (rl.length + 1))))
                    case atStart =>
                      refine ⟨0, rfl, by omega, bAlloc (Below.refl _ _) _, ?_⟩
                      have : iva (fun j => if j < 0 then -1 else 0) (rl.length + 1) = NV := by
                        rw [← HNV.out]; unfold iva nva; congr 1
                      rw [this]; exact Blk.new _ _ _
                    case round =>
                      obtain ⟨i8, rfl, him8, HB8, HBk8⟩ := hrel
                      cases gk with
                      | succ m8 =>
                        have hin8 : (i8 : Int) ≤ (rl.length : Int) := by omega
                        have hin9 : (i8 : Int) < (rl.length : Int) + 1 := by omega
                        have c1 := HBk8.out.cell (iva_at _ (j := i8) (by omega))
                        have z1 := HBk8.out.frozen i8
                        rw [if_neg (by omega)] at c1
                        go_wp2
                        go_roundg m8
                        case measure => omega
                        case rel =>
                          refine ⟨i8 + 1, by go_num, by omega, HB8.out.setCell (Nat.le_refl _) _, ?_⟩
                          have := HBk8.out.set (j := i8) (.int .i64 (-1))
                          rw [iva_set] at this
                          rw [iva_congr (h := fun j => if j < i8 + 1 then -1 else 0) (fun j hj => by
                            by_cases e : j = i8
                            · rw [if_pos e, if_pos (by omega)]
                            · rw [if_neg e]
                              by_cases e2 : j < i8
                              · rw [if_pos e2, if_pos (by omega)]
                              · rw [if_neg e2, if_neg (by omega)])] at this
                          exact this
                      | zero =>
                        obtain ⟨nb, HNB⟩ : ∃ nb, Hid (nb = W8.heap.size) := ⟨_, rfl⟩
                        rw [← HNB.out] at HBk8 ⊢
                        have hin8 : ¬ ((i8 : Int) ≤ (rl.length : Int)) := by omega
                        have KR0 : Hid (Blk wr nb 3 (iva (fun j => rz (rv rl (bn line p) Q 0 j)) (rl.length + 1))) := by
                          have := HBk8.out
                          rw [iva_congr (h := fun j => rz (rv rl (bn line p) Q 0 j)) (fun j hj => by
                            rw [if_pos (by omega)]
                            have : rv rl (bn line p) Q 0 j = N0 := by unfold rv; rw [if_neg (by omega), if_neg (by omega)]; omega
                            rw [this]; unfold rz; rw [if_pos rfl])] at this
                          exact this
                        have KN0 := Hid.mk' (KBQ.out.keep HB8.out)
                        have LB0 := Hid.mk' (bT LB.out HB8.out)
                        have hnb : w.heap.size ≤ nb := by rw [HNB.out]; exact LB.out.size
                        have hne : gb ≠ nb := by have := KBQ.out.lt; rw [HNB.out]; omega
                        clear HBk8 HB8 HNB KBQ LB him8
                        go_wp2_with fail
                        go_loopg [19] rl.length (fun m x19 wx => ∃ i : Nat, x19 = .int .i64 (i : Int) ∧ i + m = rl.length ∧ Hid (Below w.heap.size w wx) ∧ Hid (Blk wx gb 3 (iva (fun j => rz (Q j)) (rl.length + 1))) ∧ Hid (Blk wx nb 3 (iva (fun j => rz (rv rl (bn line p) Q i j)) (rl.length + 1))))
                        case atStart => exact ⟨0, rfl, by omega, LB0.out, KN0.out, KR0.out⟩
                        case round =>
                          clear LB0 KN0 KR0
                          obtain ⟨i9, rfl, him9, LB9, KN9, KR9⟩ := hrel
                          cases gk with
                          | zero =>
                            have hin9 : ¬ ((i9 : Int) < (rl.length : Int)) := by omega
                            have KE : Hid (Blk wr nb 3 (iva (fun j => rz (Rn rl (bn line p) Q j)) (rl.length + 1))) := by
                              have := KR9.out
                              rw [iva_congr (h := fun j => rz (Rn rl (bn line p) Q j)) (fun j hj => by rw [show i9 = rl.length by omega, rv_end hj])] at this
                              exact this
                            have HNR : Hid (∀ k, Rn rl (bn line p) Q k ≤ N0) := fun k => Rn_N0 HQN.out k
                            clear KR9 KN9
                            go_wp2_with fail
                            go_roundg (nl - p)
                            case measure => omega
                            case rel => exact ⟨p + 1, a1, b1, true, nb, Rn rl (bn line p) Q, by go_num, rfl, rfl, rfl, rfl, by omega, by omega, by omega, hnb, LB9.out, KE.out, HPX.out.1, HNR.out⟩
                          | succ m9 =>
                            have hin9 : (i9 : Int) < (rl.length : Int) := by omega
                            have hin8' : (i9 : Int) < (rl.length : Int) + 1 := by omega
                            have hilt : i9 < rl.length := by omega
                            obtain ⟨gt, eav, hrg⟩ := HR.out i9 hilt
                            subst eav
                            have hrg1 := range_keep hrg LB9.out
                            have hkk := kin_th HK.out hilt
                            have c9 := KN9.out.cell (iva_at _ (j := i9) (by omega))
                            have hx9l := HQN.out i9
                            obtain ⟨x9, HX9⟩ : ∃ x, Hid (Q i9 = x) := ⟨_, rfl⟩
                            obtain ⟨k9, HK9⟩ : ∃ k, Hid ((th rl i9).k = k) := ⟨_, rfl⟩
                            obtain ⟨s9, HS9⟩ : ∃ s, Hid ((th rl i9).s = s) := ⟨_, rfl⟩
                            rw [HX9.out] at c9 hx9l
                            rw [HK9.out, HS9.out] at hrg1
                            rw [HK9.out] at hkk
                            have ck : wr.cell? ⟨gt, i9 * 257, none⟩ = some (.int .i64 (k9 : Int)) := by
                              have := hrg1 0 (.int .i64 (k9 : Int)) (by simp [tvl])
                              simpa using this
                            have cset : wr.cell? ⟨gt, i9 * 257 + 1 + bn line p, none⟩ = some (.bool (s9 (bn line p))) := by
                              have := hrg1 (1 + bn line p) (.bool (s9 (bn line p))) (tvl_bit k9 s9 hbx)
                              rw [← Nat.add_assoc] at this
                              exact this
                            have cn9 := keepC LB9.out cl9
                            obtain ⟨c9b, HC9⟩ : ∃ c, Hid (bn line p = c) := ⟨_, rfl⟩
                            clear hrg hrg1
                            by_cases hx0 : x9 = N0
                            · have hz : rz x9 = -1 := by unfold rz; rw [if_pos hx0]
                              rw [hz] at c9
                              have HP9 : Hid (rv rl (bn line p) Q (i9 + 1) = rv rl (bn line p) Q i9) := rv_skip (.inl (by rw [HX9.out, hx0]))
                              clear hx0 hz cset
                              go_wp2_with fail
                              go_quiet (fail)
                              go_wp2_with fail
                              go_roundg m9
                              case measure => omega
                              case rel => exact ⟨i9 + 1, by go_num, by omega, bT LB9.out (bDrewN _ _), KN9.out.keep (bDrewN _ _), by have := KR9.out.keep (bDrewN wr nq); rw [← HP9.out] at this; exact this⟩
                            · have HZ9 : Hid (rz x9 = (x9 : Int)) := by unfold Hid rz; rw [if_neg hx0]
                              rw [HZ9.out] at c9
                              have hx0' : decide ((x9 : Int) < 0) = false := decide_eq_false (by omega)
                              have hx0n : ¬ ((x9 : Int) < 0) := by omega
                              by_cases hk1 : 1 < k9
                              · have hk1' : decide ((1 : Int) < (k9 : Int)) = true := decide_eq_true (by omega)
                                have hk1n : (1 : Int) < (k9 : Int) := by omega
                                have HP9 : Hid (rv rl (bn line p) Q (i9 + 1) = rv rl (bn line p) Q i9) := rv_skip (.inr (by unfold tk1 tkm; rw [HK9.out, decide_eq_false (by omega), decide_eq_false (by omega)]; exact ⟨rfl, rfl⟩))
                                clear cset
                                go_wp2_with fail
                                go_quiet (fail)
                                go_wp2_with fail
                                go_roundg m9
                                case measure => omega
                                case rel => exact ⟨i9 + 1, by go_num, by omega, bT LB9.out (bDrewN _ _), KN9.out.keep (bDrewN _ _), by have := KR9.out.keep (bDrewN wr nq); rw [← HP9.out] at this; exact this⟩
                              · have hk1' : decide ((1 : Int) < (k9 : Int)) = false := decide_eq_false (by omega)
                                have hk1n : ¬ ((1 : Int) < (k9 : Int)) := by omega
                                have hcb : ((bn line p : Nat) : Int) < 256 := by omega
                                cases hsb : s9 (bn line p) with
                                | false =>
                                  have HP9 : Hid (rv rl (bn line p) Q (i9 + 1) = rv rl (bn line p) Q i9) := rv_skip (.inr (by unfold tk1 tkm; rw [HS9.out, hsb]; simp))
                                  rw [hsb] at cset
                                  clear hsb
                                  go_wp2_with fail
                                  go_quiet (fail)
                                  go_wp2_with fail
                                  go_roundg m9
                                  case measure => omega
                                  case rel => exact ⟨i9 + 1, by go_num, by omega, bT LB9.out (bDrewN _ _), KN9.out.keep (bDrewN _ _), by have := KR9.out.keep (bDrewN wr nq); rw [← HP9.out] at this; exact this⟩
                                | true =>
                                  rw [hsb] at cset
                                  by_cases hk9 : k9 = 1
                                  · have hk9' : ((k9 : Int) == 1) = true := by simp; omega
                                    have HTM : tkm (th rl i9) (bn line p) = true := by unfold tkm; rw [HK9.out, HS9.out, hsb, decide_eq_true hk9]; rfl
                                    have HRV := Hid.mk' (rv_many (l := rl) (b := bn line p) (g := Q) (k := i9) HQN.out HTM)
                                    clear hsb hk9 HTM
                                    go_wp2_with fail
                                    go_quiet (fail)
                                    have LP9 := Hid.mk' (bT LB9.out (bDrewN wr nq))
                                    have KNP := Hid.mk' (KN9.out.keep (bDrewN wr nq))
                                    have KRP := Hid.mk' (KR9.out.keep (bDrewN wr nq))
                                    have p1 := KNP.out.cell (iva_at _ (j := i9) (by omega))
                                    have p2 := KRP.out.cell (iva_at _ (j := i9) (by omega))
                                    have pz := KRP.out.frozen (i9)
                                    have ck2 := keepC (bDrewN wr nq) ck
                                    rw [HX9.out, HZ9.out] at p1
                                    obtain ⟨y9, HY9⟩ : ∃ y, Hid (rv rl (bn line p) Q i9 (i9) = y) := ⟨_, rfl⟩
                                    have hy9 : y9 ≤ N0 := by rw [← HY9.out]; exact rv_le rl _ Q i9 _ HQN.out
                                    rw [HY9.out] at p2
                                    have CL9 := Hid.mk' (fun W => leastz_any y9 x9 hy9 hx9l W)
                                    rw [HZ9.out] at CL9
                                    clear ck cset c9 cn9 LB9 KN9 KR9
                                    generalize wr.drewN nq = wp9 at *
                                    go_wp2_with fail
                                    refine wp_region_still_tail 11 hmx (by kernel_rfl) ?_
                                    simp only [List.take_succ_cons, List.take_zero, List.drop_succ_cons, List.drop_zero]
                                    repeat still_step
                                    still_call (CL9.out _)
                                    repeat still_step
                                    try refine wpStill_nil ?_
                                    all_goals go_wp2_with fail
                                    all_goals go_roundg m9
                                    all_goals try omega
                                    all_goals
                                      refine ⟨i9 + 1, by go_num, by omega, ?_, ?_, ?_⟩
                                      · first | exact (LP9.out.setCell hnb _).drew | exact LP9.out.drew.setCell hnb _ | exact (LP9.out.setCell hnb _)
                                      · first | exact (KNP.out.off hne _).keep (Below.refl _ _).drew | exact (KNP.out.keep (Below.refl _ _).drew).off hne _ | exact KNP.out.off hne _
                                      · have h9 := KRP.out.set (j := i9) (.int .i64 (rz (min y9 x9)))
                                        rw [iva_set] at h9
                                        rw [iva_congr (h := fun j => rz (rv rl (bn line p) Q (i9 + 1) j)) (fun j hj => by
                                          rw [HRV.out]
                                          dsimp only
                                          by_cases e : j = i9
                                          · rw [if_pos e, if_pos e, HY9.out, HX9.out]
                                          · rw [if_neg e, if_neg e])] at h9
                                        first | exact h9.keep (Below.refl _ _).drew | exact h9
                                  · have hk9' : ((k9 : Int) == 1) = false := by simp; omega
                                    have hk90 : k9 = 0 := by omega
                                    have HT1 : tk1 (th rl i9) (bn line p) = true := by unfold tk1; rw [HK9.out, HS9.out, hsb, decide_eq_true hk90]; rfl
                                    have HRV := Hid.mk' (rv_one (l := rl) (b := bn line p) (g := Q) (k := i9) HT1)
                                    have hi3 : (i9 : Int) + 1 < (rl.length : Int) + 1 := by omega
                                    have hi4 : ((i9 : Int) + 1).toNat = i9 + 1 := by omega
                                    have hi7 : (0 : Int) ≤ (i9 : Int) + 1 := by omega
                                    have hi8 : i9 + 1 < rl.length + 1 := by omega
                                    have hwr : IntKind.i64.wrap ((i9 : Int) + 1) = (i9 : Int) + 1 := by rw [IntKind.wrap_i64]; omega
                                    clear hsb HT1
                                    go_wp2_with fail
                                    go_quiet (fail)
                                    have LP9 := Hid.mk' (bT LB9.out (bDrewN wr nq))
                                    have KNP := Hid.mk' (KN9.out.keep (bDrewN wr nq))
                                    have KRP := Hid.mk' (KR9.out.keep (bDrewN wr nq))
                                    have p1 := KNP.out.cell (iva_at _ (j := i9) (by omega))
                                    have p2 := KRP.out.cell (iva_at _ (j := i9 + 1) (by omega))
                                    have pz := KRP.out.frozen (i9 + 1)
                                    have ck2 := keepC (bDrewN wr nq) ck
                                    rw [HX9.out, HZ9.out] at p1
                                    obtain ⟨y9, HY9⟩ : ∃ y, Hid (rv rl (bn line p) Q i9 (i9 + 1) = y) := ⟨_, rfl⟩
                                    have hy9 : y9 ≤ N0 := by rw [← HY9.out]; exact rv_le rl _ Q i9 _ HQN.out
                                    rw [HY9.out] at p2
                                    have CL9 := Hid.mk' (fun W => leastz_any y9 x9 hy9 hx9l W)
                                    rw [HZ9.out] at CL9
                                    clear ck cset c9 cn9 LB9 KN9 KR9
                                    generalize wr.drewN nq = wp9 at *
                                    go_wp2_with fail
                                    refine wp_region_still_tail 13 hmx (by kernel_rfl) ?_
                                    simp only [List.take_succ_cons, List.take_zero, List.drop_succ_cons, List.drop_zero]
                                    repeat still_step
                                    still_call (CL9.out _)
                                    repeat still_step
                                    try refine wpStill_nil ?_
                                    all_goals go_wp2_with fail
                                    all_goals go_roundg m9
                                    all_goals try omega
                                    all_goals
                                      refine ⟨i9 + 1, by go_num, by omega, ?_, ?_, ?_⟩
                                      · first | exact (LP9.out.setCell hnb _).drew | exact LP9.out.drew.setCell hnb _ | exact (LP9.out.setCell hnb _)
                                      · first | exact (KNP.out.off hne _).keep (Below.refl _ _).drew | exact (KNP.out.keep (Below.refl _ _).drew).off hne _ | exact KNP.out.off hne _
                                      · have h9 := KRP.out.set (j := i9 + 1) (.int .i64 (rz (min y9 x9)))
                                        rw [iva_set] at h9
                                        rw [iva_congr (h := fun j => rz (rv rl (bn line p) Q (i9 + 1) j)) (fun j hj => by
                                          rw [HRV.out]
                                          dsimp only
                                          by_cases e : j = i9 + 1
                                          · rw [if_pos e, if_pos e, HY9.out, HX9.out]
                                          · rw [if_neg e, if_neg e])] at h9
                                        first | exact h9.keep (Below.refl _ _).drew | exact h9
set_option maxRecDepth 8000 in
set_option maxHeartbeats 4000000 in
/-- the contract of the reference's search -/
theorem searchC : SearchC := by
  intro w base av cv rl ao nl cl line f hl hk ho ht
  have hlen := ht.len
  by_cases h0 : f < 0
  · have h0' : decide (f < 0) = true := decide_eq_true h0
    go_enter Try.func34, Try.ntmps34
    go_wp2
    go_ret3
    exact ⟨0, 0, false, rfl, .inl ⟨.inl h0, rfl, rfl, rfl⟩, Below.refl _ _⟩
  · have h0' : decide (f < 0) = false := decide_eq_false h0
    by_cases h1 : (nl : Int) < f
    · have h1' : decide ((nl : Int) < f) = true := decide_eq_true h1
      go_enter Try.func34, Try.ntmps34
      go_wp2
      go_ret3
      exact ⟨0, 0, false, rfl, .inl ⟨.inr (by omega), rfl, rfl, rfl⟩, Below.refl _ _⟩
    · obtain ⟨k, rfl⟩ : ∃ j : Nat, f = (j : Int) := ⟨f.toNat, by omega⟩
      exact search_in w av cv rl ao nl cl line k (by omega) hl hk (rts_own ho) ht
end Go.Proofs.Ytaakgoojcogbcaa
