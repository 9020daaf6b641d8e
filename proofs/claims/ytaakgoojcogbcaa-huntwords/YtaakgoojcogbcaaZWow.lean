/- HuntWords, walked. -/
import Derived.Test.YtaakgoojcogbcaaXq
import Derived.Test.YtaakgoojcogbcaaXh
import Derived.Test.YtaakgoojcogbcaaZRqu
import Derived.Laws.OwnMore
namespace Go.Proofs.Ytaakgoojcogbcaa
open Go.RowKit
theorem upatE (l : List UInt8) : (upat l == ((⟨(92 :: 60 :: qt l).toArray⟩ : ByteArray) ++ ⟨#[92, 62]⟩).toList) = true := by
  have h : (⟨(92 :: 60 :: qt l).toArray⟩ : ByteArray) ++ ⟨#[92, 62]⟩ = ⟨(upat l).toArray⟩ := by
    apply ByteArray.ext
    simp [upat]
  rw [h]
  simp
theorem upatF (l : List UInt8) : upat l = ((⟨(92 :: 60 :: qt l).toArray⟩ : ByteArray) ++ ⟨#[92, 62]⟩).toList := by
  simpa using upatE l
theorem add9w (p q : List UInt8) (h : p.length + q.length ≤ 9223372036854775807) (W : World) : (Op.stringOp .add ⟨p.toArray⟩ ⟨q.toArray⟩).run Try.prog W = .ok (.string ⟨(p ++ q).toArray⟩) W := by
  have e : (⟨p.toArray⟩ : ByteArray) ++ ⟨q.toArray⟩ = ⟨(p ++ q).toArray⟩ := by
    apply ByteArray.ext
    simp
  rw [run_string_add_sum _ _ _ (by simpa [ByteArray.size] using h), e]
theorem app9w (p q : List UInt8) : (⟨p.toArray⟩ : ByteArray) ++ ⟨q.toArray⟩ = ⟨(p ++ q).toArray⟩ := by
  apply ByteArray.ext
  simp
def capW (l : List UInt8) (W : World) : Nat := grownCap W l.length 0 5
def rowW (l : List UInt8) (W : World) : Obj := .cells (bytesRow ⟨l.toArray⟩ (capW l W)) 5 ((bytesRow ⟨l.toArray⟩ (capW l W)).size, (bytesRow ⟨l.toArray⟩ (capW l W)).size + 1)
theorem cv_in (l : List UInt8) (W : World) : (convert 9 22 (.string ⟨l.toArray⟩)).run Try.prog W = .ok (.slice (some ⟨W.heap.size, 0, none⟩) l.length (capW l W)) (W.drew.alloc (rowW l W)) := by
  have h := run_bytes_of_string (P := Try.prog) W 9 22 5 ⟨l.toArray⟩ Try.underlying9 Try.underlying22 Try.underlying5
  have e : (⟨l.toArray⟩ : ByteArray).size = l.length := by simp [ByteArray.size]
  rw [e] at h
  exact h
theorem tx_in {l : List UInt8} {W W' : World} {g : Nat} (hl : l.length ≤ 1000) (hh : W'.heap[g]? = some (rowW l W)) : Tx W' (some ⟨g, 0, none⟩) l.length (capW l W) l := by
  refine ⟨rfl, grownCap_ge _ _ _ _, by omega, fun e => (by cases e), fun a ha j hj => ?_⟩
  injection ha with ha
  subst ha
  rw [add_none, Nat.zero_add]
  rw [cell_of_row _ _ j _ 5 _ hh]
  simp [bytesRow, Array.getElem?_append, hj, at8]
theorem eq41n (a b s o : Int) (h : (a == s) = false) (W : World) : (Op.equalIn 10000 37 (.agg #[.int .i64 a, .int .i64 b]) (.agg #[.int .i64 s, .int .i64 o])).run Try.prog W = .ok false W := by
  obtain ⟨i, hi⟩ : ∃ i, Try.prog.info? 3 = some i := by
    have := info3
    cases h : Try.prog.info? 3 with
    | none => rw [h] at this; cases this
    | some i => exact ⟨i, rfl⟩
  rw [run_equalIn_array W 9999 _ _ Try.underlying37 hi, cellsOf3]
  have e2 : List.range 2 = [0, 1] := by decide
  have p0 := run_part_plain (P := Try.prog) W (e := 3) plain3 (xs := #[Value.int .i64 a, .int .i64 b]) (off := 0) (v := .int .i64 a) rfl
  have p1 := run_part_plain (P := Try.prog) W (e := 3) plain3 (xs := #[Value.int .i64 s, .int .i64 o]) (off := 0) (v := .int .i64 s) rfl
  have q0 := run_equalIn_int (P := Try.prog) W 9998 3 .i64 .i64 a s Try.underlying3
  rw [h] at q0
  rw [e2]
  simp [Op.eqItems, p0, p1, q0]
theorem ba_ne {p q : List UInt8} (h : ¬ p = q) : ((⟨p.toArray⟩ : ByteArray) == ⟨q.toArray⟩) = false := by
  show (p.toArray == q.toArray) = false
  simpa using h
theorem ba_nq {p q : List UInt8} (h : ¬ p = q) : ¬ ((⟨p.toArray⟩ : ByteArray) = ⟨q.toArray⟩) := fun e => h (by
  have := congrArg (fun b : ByteArray => b.data.toList) e
  simpa using this)
set_option maxRecDepth 8000 in
set_option maxHeartbeats 16000000 in
theorem huntWords_walk (w : World) (ao : Option Addr) (n c : Nat) (t : List UInt8) (k : Int) (HT : Hid (Tx w ao n c t)) :
    Calls Try.prog 9 #[.slice ao n c, .int .i64 k] w fun e w' => e = .returned (.bool true) ∧ Below w.heap.size w w' := by
  have hlen := HT.out.len
  go_enter Try.func9, Try.ntmps9
  go_wp2_with fail
  refine (awake_any _).mono ?_
  rintro e w1 ⟨rfl, hb1⟩
  have U1 := Hid.mk' hb1
  clear hb1
  by_cases h5 : 5000 < n
  · have h5' : decide ((5000 : Int) < (n : Int)) = true := decide_eq_true (by omega)
    have h5n : (5000 : Int) < (n : Int) := by omega
    go_wp2
    go_ret
    exact ⟨rfl, U1.out⟩
  have h5' : decide ((5000 : Int) < (n : Int)) = false := decide_eq_false (by omega)
  have h5n : ¬ ((5000 : Int) < (n : Int)) := by omega
  have hn5 : n ≤ 5000 := by omega
  clear h5
  go_wp2_with fail
  refine (under_any ao n c k t w1 (by omega) (HT.out.keep U1.out)).mono ?_
  rintro e w2 ⟨hb2, ⟨_, rfl⟩ | ⟨_, _, rfl⟩ | ⟨hk, s, x, hS, ⟨_, rfl⟩ | ⟨hle, v, rfl, hov⟩⟩⟩
  · go_wp2
    go_ret
    exact ⟨rfl, bT U1.out hb2⟩
  · go_wp2
    go_ret
    exact ⟨rfl, bT U1.out hb2⟩
  · go_wp2
    go_ret
    exact ⟨rfl, bT U1.out hb2⟩
  have hxl : x ≤ t.length := by have := hS.hi; have := en_le (t := t) (s := k.toNat) (by omega); omega
  have hWL0 := wlist_len (t := t) (s := s) hxl
  have hsx : s < x := by obtain ⟨a, _, _, _, _, h5, h6⟩ := hS.a; omega
  obtain ⟨i0, f0, hi0, hf0, hW0⟩ := wd_line hS hxl
  have HWW := Hid.mk' (wd_word hS hxl)
  obtain ⟨WL, HWL⟩ : ∃ WL, Hid (wlist t s x = WL) := ⟨_, rfl⟩
  rw [HWL.out] at hle hov hWL0 HWW hW0
  have hWLp : 0 < WL.length := by omega
  have HF0 := Hid.mk' hf0
  have HW0 := Hid.mk' hW0
  clear hS hk hxl hWL0 hsx hf0 hW0
  have U2 := Hid.mk' (bT U1.out hb2)
  obtain ⟨aw, cw, ew, htw⟩ := own_tx rfl (by omega) hov
  subst ew
  have TW := Hid.mk' htw
  obtain ⟨nw, HNW⟩ : ∃ nw, Hid ((upat WL).length = nw) := ⟨_, rfl⟩
  have hnw : nw ≤ 256 := by rw [← HNW.out]; exact hle
  rw [HNW.out] at TW ⊢
  clear htw hov hb2 U1
  have CC := Hid.mk' (compile_any aw nw cw (upat WL) w2 TW)
  go_wp2_with fail
  refine CC.out.mono ?_
  rintro e w3 ⟨hb3, hres⟩
  have hcm := cmp_upat WL
  rw [hcm] at hres
  rcases hres with ⟨h9, _⟩ | ⟨_, h9, _⟩ | ⟨_, _, hlw, P, rfl, hP⟩
  · omega
  · exact absurd rfl h9
  have U3 := Hid.mk' (bT U2.out hb3)
  have HPat := Hid.mk' hP
  have hwl : (wth WL).length ≤ 256 := by simp only at hlw; omega
  have TW3 := Hid.mk' (TW.out.keep hb3)
  clear hP hlw hcm CC hb3 U2 TW
  go_wp2_with fail
  refine (split_any ao n c t w3 (by omega) (HT.out.keep U3.out)).mono ?_
  rintro e w4 ⟨v4, Dv, rfl, hR, hD⟩
  have HV : Hid (Ls w4 v4 (nl t + 1) (ln t)) := ls_of 0 hR (fun j _ => by rw [Nat.zero_add]) hD (fun i hi => by rw [ln_length (by omega)]; have := en_le (sp_le (t := t) (n := i) (by omega)); omega)
  have B4 := Hid.mk' hR.bel
  obtain ⟨av, cv, hv⟩ := HV.out.top
  subst hv
  have U4 := Hid.mk' (bT U3.out B4.out)
  have HP4 := Hid.mk' (HPat.out.keep B4.out)
  have TW4 := Hid.mk' (TW3.out.keep B4.out)
  have hnlt : nl t ≤ n := by have := nl_le t; omega
  have HLL : Hid (∀ i, i ≤ nl t → (ln t i).length ≤ n) := fun i hi => by
    rw [ln_length hi]; have := en_le (sp_le (t := t) (n := i) hi); omega
  clear hR hD HPat TW3 U3 hle
  go_wp2_with fail
  go_loopg [11, 12, 13, 14, 15, 16, 17, 18, 19, 20, 21] 2 (fun m x11 x12 x13 x14 x15 x16 x17 x18 x19 x20 x21 wx => ∃ (kk : Nat) (wd : List UInt8), x12 = .int .i64 (kk : Int) ∧ x11 = .string ⟨wd.toArray⟩ ∧ kk + m = 2 ∧ Hid (wd = [] ∨ wd = WL) ∧ Hid (1 ≤ kk → wd = WL) ∧ Hid (Below w4.heap.size w4 wx))
  case atStart => exact ⟨0, [], rfl, rfl, by omega, .inl rfl, fun h => by omega, Below.refl _ _⟩
  case round =>
    obtain ⟨kk, wd, rfl, rfl, hkm, HWD, HW1, LB⟩ := hrel
    cases gk with
    | zero =>
      have hk2 : ¬ ((kk : Int) < 2) := by omega
      have hk3 : kk = 2 := by omega
      subst hk3
      have hwd : wd = WL := HW1.out (by omega)
      subst hwd
      have hWn0 : ¬ wd = [] := fun h => by rw [h] at hWLp; simp at hWLp
      have hWn1 : ¬ [] = wd := fun h => hWn0 h.symm
      have TW5 := Hid.mk' (TW4.out.keep LB.out)
      have hcv := cv_in wd
      have hwl3 : wd.length ≤ 1000 := by have := hnw; have h2 := HNW.out; unfold upat at h2; have h3 := qt_len wd; simp at h2; omega
      have hql : (qt wd).length ≤ 1000 := by have := hnw; have h2 := HNW.out; unfold upat at h2; simp at h2; omega
      have hadd1 := fun W => add9w [92, 60] (qt wd) (by simp; omega) W
      have hadd2 := fun W => add9w ([92, 60] ++ qt wd) [92, 62] (by simp; omega) W
      clear HW1 HWD
      go_wp2_with fail
      have happ1 := app9w [92, 60] (qt wd)
      have happ2 := app9w ([92, 60] ++ qt wd) [92, 62]
      have hWne : ((⟨wd.toArray⟩ : ByteArray) == ⟨#[]⟩) = false := ba_ne (p := wd) (q := []) hWn0
      have hWnn : ¬ ((⟨wd.toArray⟩ : ByteArray) = ⟨#[]⟩) := ba_nq (p := wd) (q := []) hWn0
      have hWnm : ((⟨wd.toArray⟩ : ByteArray) != ⟨#[]⟩) = true := by unfold bne; rw [hWne]; rfl
      have hie : wd.isEmpty = false := by simpa using hWn0
      have hz1 : ¬ (9223372036854775807 < (qt wd).length + 1 + 1 + 2) := by omega
      have hz2 : ¬ (9223372036854775807 < 2 + (qt wd).length) := by omega
      have cw0 := conv_tx (TW5.out.keep (Below.refl _ _).drew)
      have cw1 := conv_tx (TW5.out.keep (bAlloc (Below.refl _ _) (rowW wd wr.drew)).drew.drew)
      clear HV HP4 HLL HF0 HW0 HWW HWL HNW hi0 HT B4 happ1 happ2
      go_region_law ((((try go_simp); go_at_call 29; refine (rquote_any _ (some ⟨wr.heap.size, 0, none⟩) wd.length _ wd (by omega) (Hid.mk' (tx_in (W' := (wr.alloc (rowW wd _)).drew.drew) hwl3 (heap_alloc_new wr (rowW wd _))))).mono ?_; rintro e w8 ⟨vq, rfl, hoq, hbq⟩; have U8 := Hid.mk' (bT (bT LB.out (bAlloc (Below.refl _ wr) (rowW wd _)).drew.drew) hbq); obtain ⟨aq, cq, rfl, htq⟩ := own_tx rfl (by omega) hoq; have cq0 := conv_tx htq; have cq1 := conv_tx (htq.keep (Below.refl _ _).drew); have cq2 := conv_tx (htq.keep (Below.refl _ _).drew.drew); have hS0 := conv_tx (TW4.out.keep U8.out); have hS1 := conv_tx (TW4.out.keep U8.out.drew); have hS2 := conv_tx (TW4.out.keep U8.out.drew.drew); clear hoq htq hbq)))
      all_goals go_wp2
      all_goals go_ret
      all_goals refine ⟨?_, bT U4.out U8.out⟩
      all_goals (try simp only [Act.put, List.setIfInBounds_toArray])
      all_goals first | (simp [upatE]; done) | (simp [← upatF]; done) | (simp [upat]; done)
    | succ m9 =>
      have hk2 : (kk : Int) < 2 := by omega
      go_wp2_with fail
      go_loopg [11, 13, 14, 15, 16, 17, 18, 19, 20, 21] (nl t + 1) (fun m x11 x13 x14 x15 x16 x17 x18 x19 x20 x21 wx => ∃ (i : Nat) (wd : List UInt8), x13 = .int .i64 (i : Int) ∧ x11 = .string ⟨wd.toArray⟩ ∧ i + m = nl t + 1 ∧ Hid (wd = [] ∨ wd = WL) ∧ Hid (1 ≤ kk ∨ i0 < i → wd = WL) ∧ Hid (Below w4.heap.size w4 wx))
      case atStart => exact ⟨0, wd, rfl, rfl, by omega, HWD.out, fun h => HW1.out (by omega), LB.out⟩
      case round =>
        clear HWD HW1 LB
        obtain ⟨i, wd, rfl, rfl, him, HWD, HW1, LB⟩ := hrel
        cases gk with
        | zero =>
          have hi1 : ¬ ((i : Int) < ((nl t + 1 : Nat) : Int)) := by omega
          have hi2 : ¬ ((i : Int) < (nl t : Int) + 1) := by omega
          have HWE : Hid (wd = WL) := HW1.out (.inr (by omega))
          go_wp2_with fail
          go_roundg m9
          case measure => omega
          case rel => exact ⟨kk + 1, wd, by go_num, rfl, by omega, HWD.out, fun _ => HWE.out, LB.out⟩
        | succ m8 =>
          have hi1 : (i : Int) < ((nl t + 1 : Nat) : Int) := by omega
          have hi2 : (i : Int) < (nl t : Int) + 1 := by omega
          have hil : i ≤ nl t := by omega
          obtain ⟨g, c', ai, ci, hv, hcell, hti⟩ := (HV.out.keep LB.out).each i (by omega)
          have hav : av = some ⟨g, 0, none⟩ := by simp at hv; exact hv.1
          subst hav
          have hgl : g < w4.heap.size := by
            obtain ⟨g2, c2, a2, d2, h1, h2, _⟩ := HV.out.each i (by omega)
            have e : g2 = g := by injection h1 with h1 _ _; injection h1 with h1; injection h1 with h1 _ _; exact h1.symm
            subst e
            exact lt_of_cell h2
          have HGC : Hid (∀ W', Below w4.heap.size w4 W' → W'.cell? ⟨g, i, none⟩ = some (.slice ai (ln t i).length ci) ∧ Tx W' ai (ln t i).length ci (ln t i)) := fun W' hb => by
            obtain ⟨g2, c2, a2, d2, h1, h2, h3⟩ := (HV.out.keep hb).each i (by omega)
            have e : g2 = g := by injection h1 with h1 _ _; injection h1 with h1; injection h1 with h1 _ _; exact h1.symm
            subst e
            have h5 : W'.cell? ⟨g2, i, none⟩ = w4.cell? ⟨g2, i, none⟩ := hb.cell (show (⟨g2, i, none⟩ : Addr).block < w4.heap.size from hgl)
            have h6 : wr.cell? ⟨g2, i, none⟩ = w4.cell? ⟨g2, i, none⟩ := LB.out.cell (show (⟨g2, i, none⟩ : Addr).block < w4.heap.size from hgl)
            rw [h2, ← h6, hcell] at h5
            injection h5 with h5
            injection h5 with q1 q2 q3
            subst q1 q3
            exact ⟨h2, h3⟩
          have hSL := HLL.out i hil
          have HFI : Hid (i = i0 → f0 < (ln t i).length ∧ Wm WL (ln t i) f0) := fun h => by rw [h]; exact ⟨HF0.out, HW0.out⟩
          obtain ⟨LI, HLI⟩ : ∃ L, Hid (ln t i = L) := ⟨_, rfl⟩
          obtain ⟨lw, HLN⟩ : ∃ m, Hid ((ln t i).length = m) := ⟨_, rfl⟩
          rw [HLN.out] at HGC hSL HFI
          rw [HLI.out] at HGC HFI HLN
          clear hcell hti hv
          have cg := (HGC.out wr LB.out).1
          have CR := Hid.mk' (runs_any ai lw ci LI false wr (by omega) (HGC.out wr LB.out).2)
          go_wp2_with fail
          refine CR.out.mono ?_
          rintro e wa ⟨vr, rfl, hor, hba⟩
          have LA := Hid.mk' (bT LB.out hba)
          have cga := (HGC.out wa LA.out).1
          have CA := Hid.mk' (all_any _ wa P (wth WL) ai lw ci LI (by omega) hwl (HP4.out.keep LA.out) (HGC.out wa LA.out).2)
          obtain ⟨ar, cr, er⟩ := own_shape hor
          subst er
          clear CR cg
          go_wp2_with fail
          refine CA.out.mono ?_
          rintro e wb ⟨vh, xs, rfl, hAR, hxs, hoh, hbb⟩
          have LBB := Hid.mk' (bT LA.out hbb)
          have OR := Hid.mk' (own_keep hor hbb)
          have OH := Hid.mk' hoh
          have HS0 := Hid.mk' (Hl.start hAR)
          obtain ⟨ah, ch, eh⟩ := own_shape hoh
          subst eh
          obtain ⟨Rl, HRl⟩ : ∃ Rl, Hid ((rn (kn LI false) lw lw).length = Rl) := ⟨_, rfl⟩
          obtain ⟨xl, HXl⟩ : ∃ xl, Hid (xs.length = xl) := ⟨_, rfl⟩
          rw [HRl.out] at OR ⊢
          rw [HXl.out] at OH ⊢
          have HRle := Hid.mk' (rn_len (kn LI false) lw lw)
          rw [HRl.out] at HRle
          have hxl2 : xl ≤ 6000 := by rw [← HXl.out]; have := HLN.out; omega
          have hRl2 : Rl ≤ 5000 := by have := HRle.out; omega
          clear hor hoh hAR hbb hba CA cga LA hxs
          go_wp2_with fail
          go_loopg [11, 14, 17, 18, 19, 20, 21] lw (fun m x11 x14 x17 x18 x19 x20 x21 wx => ∃ (fr_ nn jl : Nat) (wd : List UInt8), x14 = .int .i64 (fr_ : Int) ∧ x17 = .int .i64 (nn : Int) ∧ x18 = .int .i64 (jl : Int) ∧ x11 = .string ⟨wd.toArray⟩ ∧ m + fr_ = lw ∧ nn ≤ xl ∧ Hid ((rn (kn LI false) lw fr_).length = jl) ∧ Hid (Hl WL LI (xs.drop nn) fr_) ∧ Hid (fr_ = 0 ∨ (fr_ < lw → ¬ kn LI false (fr_ - 1) = kn LI false fr_)) ∧ Hid (wd = [] ∨ wd = WL) ∧ Hid (1 ≤ kk ∨ i0 < i ∨ (i = i0 ∧ f0 < fr_) → wd = WL) ∧ Hid (Below wb.heap.size wb wx))
          case atStart => exact ⟨0, 0, 0, wd, rfl, rfl, rfl, rfl, by omega, by omega, rfl, HS0.out, .inl rfl, HWD.out, fun h => HW1.out (by omega), Below.refl _ _⟩
          case round =>
            clear HWD HW1 LB HS0
            obtain ⟨fr_, nn, jl, wd, rfl, rfl, rfl, rfl, hfm, hnx, HJ, HH, HLO, HWD, HW1, LB⟩ := hrel
            by_cases hfl : fr_ = lw
            · have HDn : Hid (nn = xl) := by
                have h1 := HH.out
                rw [hfl, ← HLN.out] at h1
                have h2 := h1.done
                have h3 := List.drop_eq_nil_iff.1 h2
                have := HXl.out
                unfold Hid; omega
              have hJl : jl = Rl := by rw [← HJ.out, hfl]; exact HRl.out
              have hj1 : ¬ ((jl : Int) < (Rl : Int)) := by omega
              have hn1 : ((nn : Int) != (xl : Int)) = false := by have := HDn.out; simp; omega
              have HWN : Hid (1 ≤ kk ∨ i0 < i + 1 → wd = WL) := fun h => HW1.out (by
                rcases h with h | h
                · exact .inl h
                · rcases Nat.lt_or_ge i0 i with g9 | g9
                  · exact .inr (.inl g9)
                  · have := (HFI.out (by omega)).1
                    exact .inr (.inr ⟨by omega, by omega⟩))
              have B9 := Hid.mk' (bT LBB.out LB.out)
              clear hfl hJl HH
              go_wp2_with fail
              go_roundg m8
              case measure => omega
              case rel => exact ⟨i + 1, wd, by go_num, rfl, by omega, HWD.out, HWN.out, B9.out⟩
            · have hfl2 : fr_ < lw := by omega
              obtain ⟨e, he1, he2, he3, he4, he5, he6⟩ := run_next (K := kn LI false) (n := lw) hfl2
              have hRn : Rn1 LI fr_ e := ⟨he1, by have := HLN.out; omega, he5, (by rcases HLO.out with h | h; exact .inl h; exact .inr (h hfl2)), (by rcases Nat.lt_or_ge e lw with h | h; exact .inr (he6 h); exact .inl (by have := HLN.out; omega))⟩
              have HRN := Hid.mk' hRn
              rw [HJ.out] at he4
              have hjR : jl < Rl := by have := (List.getElem?_eq_some_iff.1 he4).1; rw [HRl.out] at this; exact this
              have HJe : Hid ((rn (kn LI false) lw e).length = jl + 1) := by unfold Hid; rw [he3, List.length_append, HJ.out]; rfl
              have HLO2 : Hid (e = 0 ∨ (e < lw → ¬ kn LI false (e - 1) = kn LI false e)) := .inr (fun h h9 => he6 h (by rw [← h9]; exact he5 _ (by omega) (by omega)))
              obtain ⟨gr, cr2, er, _, _⟩ := own_some OR.out (by omega)
              injection er with er1 _ er3
              subst er1 er3
              have B9 := Hid.mk' (bT LBB.out LB.out)
              obtain ⟨gl, ol, el, hcl⟩ := (HGC.out wr B9.out).2.at (by omega)
              subst el
              have hcap := (HGC.out wr B9.out).2.cap
              obtain ⟨RN, HRNL⟩ : ∃ RN, Hid ((LI.drop fr_).take (e - fr_) = RN) := ⟨_, rfl⟩
              have TR : Hid (Tx wr (some ⟨gl, ol + fr_, none⟩) (e - fr_) (ci - fr_) RN) := by
                have := ((HGC.out wr B9.out).2.tail (s := fr_) (by omega)).mid (e := e) he2 (by omega)
                rw [add_none] at this
                rw [← HRNL.out]; exact this
              have HF : Hid (∀ W', Below wr.heap.size wr W' → W'.cell? ⟨g, i, none⟩ = some (.slice (some ⟨gl, ol, none⟩) lw ci) ∧ W'.cell? ⟨gr, jl, none⟩ = some (.int .i64 (e : Int)) ∧ W'.cell? ⟨gl, ol + fr_, none⟩ = some (.int .u8 ((at8 LI fr_).toNat : Int))) := fun W' hb =>
                ⟨(HGC.out W' (bT B9.out hb)).1, row_cell (own_keep (own_keep OR.out LB.out) hb) (iv_at he4), keepC hb (hcl fr_ hfl2)⟩
              have hs1 : (fr_ : Int) ≤ (e : Int) := by omega
              have hs2 : (e : Int) ≤ (ci : Int) := by omega
              have hs3 : (0 : Int) ≤ (fr_ : Int) := by omega
              have hcx : ¬ ci = fr_ := by omega
              have hj1 : (jl : Int) < (Rl : Int) := by omega
              have hf1 : (fr_ : Int) < (lw : Int) := by omega
              have hi3 : (i : Int) < ((nl t + 1 : Nat) : Int) := by omega
              have HM : Hid (gk - (e - fr_) + e = lw) := by unfold Hid; omega
              have he9 : e ≤ 5000 := by omega
              obtain ⟨cf0, cf1, cf2⟩ := HF.out wr (Below.refl _ _)
              have cvq := conv_drew TR.out
              have hRl0 : 0 < RN.length := by rw [← HRNL.out, List.length_take, List.length_drop]; have := HLN.out; omega
              have HRl0 := Hid.mk' hRl0
              clear he3 he4 he5 he6 hRn hcl hfl HLO hRl0
              go_wp2_with fail
              go_quiet (fail)
              have BQ := Hid.mk' (below_drewN wr nq)
              generalize wr.drewN nq = w9 at *
              have B10 := Hid.mk' (bT LB.out BQ.out)
              obtain ⟨cg0, cg1, cg2⟩ := HF.out w9 BQ.out
              obtain ⟨Kf, HKf⟩ : ∃ Kf, Hid (kn LI false fr_ = Kf) := ⟨_, rfl⟩
              have CO : Hid (Calls Try.prog 28 #[.int .u8 ((at8 LI fr_).toNat : Int), .bool false] w9 fun e w' => e = .returned (.int .i64 Kf) ∧ w' = w9) := by rw [← HKf.out]; exact of_any _ _ _
              clear cf0 cf1 cf2 cvq
              go_wp2_with fail
              refine CO.out.mono ?_
              rintro e9 w10 ⟨rfl, hw⟩
              have hq := hw.symm
              subst hq
              clear CO
              have hWne : ((⟨WL.toArray⟩ : ByteArray) == ⟨#[]⟩) = false := ba_ne (p := WL) (q := []) (fun h => by rw [h] at hWLp; simp at hWLp)
              have hWnn : ¬ ((⟨WL.toArray⟩ : ByteArray) = ⟨#[]⟩) := ba_nq (p := WL) (q := []) (fun h => by rw [h] at hWLp; simp at hWLp)
              have hWnm : ((⟨WL.toArray⟩ : ByteArray) != ⟨#[]⟩) = true := by unfold bne; rw [hWne]; rfl
              have hWn0 : ¬ WL = [] := fun h => by rw [h] at hWLp; simp at hWLp
              have hWn1 : ¬ [] = WL := fun h => hWn0 h.symm
              by_cases hW : Wm WL LI fr_
              · obtain ⟨hk2, hse⟩ := HRN.out.wm HWW.out hW
                obtain ⟨r, hy, hHl⟩ := HH.out.hit HRN.out HWW.out hW
                have hWR : WL = RN := by rw [← HRNL.out]; exact (HRN.out.wm_list HWW.out hW).symm
                subst hWR
                have hKe : Kf = 2 := by rw [← HKf.out]; exact hk2
                subst hKe
                have hnl : nn < xl := by
                  rcases Nat.lt_or_ge nn xl with h | h
                  · exact h
                  · rw [List.drop_eq_nil_of_le (by rw [HXl.out]; exact h)] at hy; cases hy
                have hxn : xs[nn]? = some (fr_, e) := by
                  have h9 : (xs.drop nn)[0]? = some (fr_, e) := by rw [hy]; rfl
                  rw [List.getElem?_drop, Nat.add_zero] at h9; exact h9
                have HHn : Hid (Hl WL LI (xs.drop (nn + 1)) e) := by
                  have h9 : xs.drop (nn + 1) = r := by rw [← List.drop_drop, hy]; rfl
                  unfold Hid; rw [h9]; exact hHl
                obtain ⟨gh, ch2, eh, _, _⟩ := own_some OH.out (by omega)
                injection eh with eh1 _ eh3
                subst eh1 eh3
                have hp := pvs_at xs hxn
                have ch0 : w9.cell? ⟨gh, nn * 2, none⟩ = some (.int .i64 (fr_ : Int)) := row_cell (own_keep OH.out B10.out) hp.1
                have ch1 : w9.cell? ⟨gh, nn * 2 + 1, none⟩ = some (.int .i64 (e : Int)) := row_cell (own_keep OH.out B10.out) hp.2
                have hn1 : (nn : Int) < (xl : Int) := by omega
                have hn1' : decide ((nn : Int) < (xl : Int)) = true := decide_eq_true hn1
                have hn1c : decide (nn < xl) = true := decide_eq_true hnl
                have heq := fun W => eq41 (fr_ : Int) (e : Int) W
                have hwd := HWD.out
                clear hy hHl hxn hp hW hk2 hse HWD HW1
                rcases hwd with hwd | hwd
                · subst wd
                  go_wp2_with fail
                  go_quiet (fail)
                  have BR := Hid.mk' (below_drewN w9 nq)
                  generalize w9.drewN nq = w11 at *
                  have B12 := Hid.mk' (bT B10.out BR.out)
                  obtain ⟨ck0, ck1, ck2⟩ := HF.out w11 (bT BQ.out BR.out)
                  go_wp2_with fail
                  all_goals
                    go_roundg (gk - (e - fr_))
                    case measure => omega
                    case rel => exact ⟨e, nn + 1, jl + 1, WL, rfl, by go_num, by go_num, rfl, HM.out, by omega, HJe.out, HHn.out, HLO2.out, .inr rfl, fun _ => rfl, B12.out⟩
                · subst wd
                  go_wp2_with fail
                  go_quiet (fail)
                  have BR := Hid.mk' (below_drewN w9 nq)
                  generalize w9.drewN nq = w11 at *
                  have B12 := Hid.mk' (bT B10.out BR.out)
                  obtain ⟨ck0, ck1, ck2⟩ := HF.out w11 (bT BQ.out BR.out)
                  go_wp2_with fail
                  all_goals
                    go_roundg (gk - (e - fr_))
                    case measure => omega
                    case rel => exact ⟨e, nn + 1, jl + 1, WL, rfl, by go_num, by go_num, rfl, HM.out, by omega, HJe.out, HHn.out, HLO2.out, .inr rfl, fun _ => rfl, B12.out⟩
              · obtain ⟨hHl, hne⟩ := HH.out.miss HRN.out hW
                have HHn := Hid.mk' hHl
                have HWn : Hid (1 ≤ kk ∨ i0 < i ∨ (i = i0 ∧ f0 < e) → wd = WL) := fun h => HW1.out (by
                  rcases h with h | h | ⟨h, h2⟩
                  · exact .inl h
                  · exact .inr (.inl h)
                  · refine .inr (.inr ⟨h, ?_⟩)
                    have h3 := (HFI.out h).2
                    rcases Nat.lt_trichotomy f0 fr_ with h4 | h4 | h4
                    · exact h4
                    · rw [h4] at h3; exact absurd h3 hW
                    · exact absurd h3 (HRN.out.mid h4 h2))
                have hwd := HWD.out
                by_cases hnl : nn < xl
                · obtain ⟨⟨a9, b9⟩, hxn⟩ : ∃ y, xs[nn]? = some y := ⟨_, List.getElem?_eq_getElem (by rw [HXl.out]; exact hnl)⟩
                  have hae : a9 ≠ fr_ := hne (a9, b9) (xs.drop (nn + 1)) (by
                    have h9 := (List.getElem?_eq_some_iff.1 hxn)
                    obtain ⟨h10, h11⟩ := h9
                    rw [List.drop_eq_getElem_cons h10, h11])
                  obtain ⟨gh, ch2, eh, _, _⟩ := own_some OH.out (by omega)
                  injection eh with eh1 _ eh3
                  subst eh1 eh3
                  have hp := pvs_at xs hxn
                  have ch0 : w9.cell? ⟨gh, nn * 2, none⟩ = some (.int .i64 (a9 : Int)) := row_cell (own_keep OH.out B10.out) hp.1
                  have ch1 : w9.cell? ⟨gh, nn * 2 + 1, none⟩ = some (.int .i64 (b9 : Int)) := row_cell (own_keep OH.out B10.out) hp.2
                  have hn1 : (nn : Int) < (xl : Int) := by omega
                  have hn1' : decide ((nn : Int) < (xl : Int)) = true := decide_eq_true hn1
                  have hn1c : decide (nn < xl) = true := decide_eq_true hnl
                  have hae1 : ¬ ((a9 : Int) = (fr_ : Int)) := by omega
                  have hae2 : ((a9 : Int) == (fr_ : Int)) = false := beq_false_of_ne hae1
                  have heq := fun W => eq41n (a9 : Int) (b9 : Int) (fr_ : Int) (e : Int) hae2 W
                  clear hHl hne hxn hp HW1
                  by_cases hK : Kf = 2
                  · subst hK
                    have hRW : ¬ RN = WL := fun h => hW (HRN.out.of_list HKf.out (by rw [HRNL.out]; exact h))
                    have hbe := ba_ne hRW
                    have hbn := ba_nq hRW
                    have hbz := ba_ne (p := RN) (q := []) (fun h => by have := HRl0.out; rw [h] at this; simp at this)
                    have hbzn := ba_nq (p := RN) (q := []) (fun h => by have := HRl0.out; rw [h] at this; simp at this)
                    have hRn0 : ¬ RN = [] := fun h => by have := HRl0.out; rw [h] at this; simp at this
                    have hRn1 : ¬ [] = RN := fun h => hRn0 h.symm
                    have hRW1 : ¬ WL = RN := fun h => hRW h.symm
                    rcases hwd with hwd | hwd
                    · have HWz : Hid (¬ (1 ≤ kk ∨ i0 < i ∨ (i = i0 ∧ f0 < e))) := fun h => hWn1 (hwd ▸ HWn.out h)
                      clear HWn HWD
                      subst wd
                      go_wp2_with fail
                      go_quiet (fail)
                      have BR := Hid.mk' (below_drewN w9 nq)
                      generalize w9.drewN nq = w11 at *
                      have B12 := Hid.mk' (bT B10.out BR.out)
                      obtain ⟨ck0, ck1, ck2⟩ := HF.out w11 (bT BQ.out BR.out)
                      go_wp2_with fail
                      all_goals
                        go_roundg (gk - (e - fr_))
                        case measure => omega
                        case rel => exact ⟨e, nn, jl + 1, [], rfl, rfl, by go_num, rfl, HM.out, hnx, HJe.out, HHn.out, HLO2.out, .inl rfl, fun h => absurd h HWz.out, B12.out⟩
                    · clear HWn HWD
                      subst wd
                      go_wp2_with fail
                      go_quiet (fail)
                      have BR := Hid.mk' (below_drewN w9 nq)
                      generalize w9.drewN nq = w11 at *
                      have B12 := Hid.mk' (bT B10.out BR.out)
                      obtain ⟨ck0, ck1, ck2⟩ := HF.out w11 (bT BQ.out BR.out)
                      go_wp2_with fail
                      all_goals
                        go_roundg (gk - (e - fr_))
                        case measure => omega
                        case rel => exact ⟨e, nn, jl + 1, WL, rfl, rfl, by go_num, rfl, HM.out, hnx, HJe.out, HHn.out, HLO2.out, .inr rfl, fun _ => rfl, B12.out⟩
                  · have hK' : (Kf == 2) = false := by simpa using hK
                    rcases hwd with hwd | hwd
                    · have HWz : Hid (¬ (1 ≤ kk ∨ i0 < i ∨ (i = i0 ∧ f0 < e))) := fun h => hWn1 (hwd ▸ HWn.out h)
                      clear HWn HWD
                      subst wd
                      go_wp2_with fail
                      go_quiet (fail)
                      have BR := Hid.mk' (below_drewN w9 nq)
                      generalize w9.drewN nq = w11 at *
                      have B12 := Hid.mk' (bT B10.out BR.out)
                      obtain ⟨ck0, ck1, ck2⟩ := HF.out w11 (bT BQ.out BR.out)
                      go_wp2_with fail
                      all_goals
                        go_roundg (gk - (e - fr_))
                        case measure => omega
                        case rel => exact ⟨e, nn, jl + 1, [], rfl, rfl, by go_num, rfl, HM.out, hnx, HJe.out, HHn.out, HLO2.out, .inl rfl, fun h => absurd h HWz.out, B12.out⟩
                    · clear HWn HWD
                      subst wd
                      go_wp2_with fail
                      go_quiet (fail)
                      have BR := Hid.mk' (below_drewN w9 nq)
                      generalize w9.drewN nq = w11 at *
                      have B12 := Hid.mk' (bT B10.out BR.out)
                      obtain ⟨ck0, ck1, ck2⟩ := HF.out w11 (bT BQ.out BR.out)
                      go_wp2_with fail
                      all_goals
                        go_roundg (gk - (e - fr_))
                        case measure => omega
                        case rel => exact ⟨e, nn, jl + 1, WL, rfl, rfl, by go_num, rfl, HM.out, hnx, HJe.out, HHn.out, HLO2.out, .inr rfl, fun _ => rfl, B12.out⟩
                · have hn1 : ¬ ((nn : Int) < (xl : Int)) := by omega
                  have hn1' : decide ((nn : Int) < (xl : Int)) = false := decide_eq_false hn1
                  have hn1c : decide (nn < xl) = false := decide_eq_false hnl
                  clear hHl hne HW1
                  by_cases hK : Kf = 2
                  · subst hK
                    have hRW : ¬ RN = WL := fun h => hW (HRN.out.of_list HKf.out (by rw [HRNL.out]; exact h))
                    have hbe := ba_ne hRW
                    have hbn := ba_nq hRW
                    have hbz := ba_ne (p := RN) (q := []) (fun h => by have := HRl0.out; rw [h] at this; simp at this)
                    have hbzn := ba_nq (p := RN) (q := []) (fun h => by have := HRl0.out; rw [h] at this; simp at this)
                    have hRn0 : ¬ RN = [] := fun h => by have := HRl0.out; rw [h] at this; simp at this
                    have hRn1 : ¬ [] = RN := fun h => hRn0 h.symm
                    have hRW1 : ¬ WL = RN := fun h => hRW h.symm
                    rcases hwd with hwd | hwd
                    · have HWz : Hid (¬ (1 ≤ kk ∨ i0 < i ∨ (i = i0 ∧ f0 < e))) := fun h => hWn1 (hwd ▸ HWn.out h)
                      clear HWn HWD
                      subst wd
                      go_wp2_with fail
                      go_quiet (fail)
                      have BR := Hid.mk' (below_drewN w9 nq)
                      generalize w9.drewN nq = w11 at *
                      have B12 := Hid.mk' (bT B10.out BR.out)
                      obtain ⟨ck0, ck1, ck2⟩ := HF.out w11 (bT BQ.out BR.out)
                      go_wp2_with fail
                      all_goals
                        go_roundg (gk - (e - fr_))
                        case measure => omega
                        case rel => exact ⟨e, nn, jl + 1, [], rfl, rfl, by go_num, rfl, HM.out, hnx, HJe.out, HHn.out, HLO2.out, .inl rfl, fun h => absurd h HWz.out, B12.out⟩
                    · clear HWn HWD
                      subst wd
                      go_wp2_with fail
                      go_quiet (fail)
                      have BR := Hid.mk' (below_drewN w9 nq)
                      generalize w9.drewN nq = w11 at *
                      have B12 := Hid.mk' (bT B10.out BR.out)
                      obtain ⟨ck0, ck1, ck2⟩ := HF.out w11 (bT BQ.out BR.out)
                      go_wp2_with fail
                      all_goals
                        go_roundg (gk - (e - fr_))
                        case measure => omega
                        case rel => exact ⟨e, nn, jl + 1, WL, rfl, rfl, by go_num, rfl, HM.out, hnx, HJe.out, HHn.out, HLO2.out, .inr rfl, fun _ => rfl, B12.out⟩
                  · have hK' : (Kf == 2) = false := by simpa using hK
                    rcases hwd with hwd | hwd
                    · have HWz : Hid (¬ (1 ≤ kk ∨ i0 < i ∨ (i = i0 ∧ f0 < e))) := fun h => hWn1 (hwd ▸ HWn.out h)
                      clear HWn HWD
                      subst wd
                      go_wp2_with fail
                      go_quiet (fail)
                      have BR := Hid.mk' (below_drewN w9 nq)
                      generalize w9.drewN nq = w11 at *
                      have B12 := Hid.mk' (bT B10.out BR.out)
                      obtain ⟨ck0, ck1, ck2⟩ := HF.out w11 (bT BQ.out BR.out)
                      go_wp2_with fail
                      all_goals
                        go_roundg (gk - (e - fr_))
                        case measure => omega
                        case rel => exact ⟨e, nn, jl + 1, [], rfl, rfl, by go_num, rfl, HM.out, hnx, HJe.out, HHn.out, HLO2.out, .inl rfl, fun h => absurd h HWz.out, B12.out⟩
                    · clear HWn HWD
                      subst wd
                      go_wp2_with fail
                      go_quiet (fail)
                      have BR := Hid.mk' (below_drewN w9 nq)
                      generalize w9.drewN nq = w11 at *
                      have B12 := Hid.mk' (bT B10.out BR.out)
                      obtain ⟨ck0, ck1, ck2⟩ := HF.out w11 (bT BQ.out BR.out)
                      go_wp2_with fail
                      all_goals
                        go_roundg (gk - (e - fr_))
                        case measure => omega
                        case rel => exact ⟨e, nn, jl + 1, WL, rfl, rfl, by go_num, rfl, HM.out, hnx, HJe.out, HHn.out, HLO2.out, .inr rfl, fun _ => rfl, B12.out⟩
end Go.Proofs.Ytaakgoojcogbcaa
