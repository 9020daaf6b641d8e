/- The reference's things. -/
import Derived.Test.YtaakgoojcogbcaaXj
import Derived.Test.YtaakgoojcogbcaaZRst
import Derived.Test.YtaakgoojcogbcaaXg
namespace Go.Proofs.Ytaakgoojcogbcaa
open Go.RowKit
/-- what the reference's things answers -/
def ThiP (w : World) (p : List UInt8) (e : Ending) (w' : World) : Prop :=
  Below w.heap.size w w' ∧ ((256 < p.length ∧ e = .returned (.tuple #[.slice none 0 0, .int .i64 0, .int .i64 1])) ∨
    (p.length ≤ 256 ∧ (cmp p).1 ≠ -1 ∧ e = .returned (.tuple #[.slice none 0 0, .int .i64 (cmp p).1, .int .i64 110])) ∨
    (p.length ≤ 256 ∧ (cmp p).1 = -1 ∧ (cmp p).2.length ≤ p.length ∧ ∃ v rl, e = .returned (.tuple #[v, .int .i64 0, .int .i64 0]) ∧ Req (cmp p).2 rl ∧ w'.ownsRow w.heap.size 106 257 v rl.length (tvs rl)))
/-- the flags of the reference, of what was read last -/
def Flg (l : List Th) (st ba : Bool) : Prop := (ba = true ∧ (l = [] ∨ (th l (l.length - 1)).k = 2)) ∨ (ba = false ∧ l ≠ [] ∧ (th l (l.length - 1)).k ≠ 2 ∧ st = decide ((th l (l.length - 1)).k ≠ 0))
theorem last_snoc (l : List Th) (t : Th) : th (l ++ [t]) ((l ++ [t]).length - 1) = t := by
  rw [th_snoc]; simp
theorem Flg.snoc {l : List Th} {t : Th} {st : Bool} (h2 : t.k ≠ 2) (hs : st = decide (t.k ≠ 0)) : Flg (l ++ [t]) st false := by
  refine .inr ⟨rfl, by simp, ?_, ?_⟩
  · rw [last_snoc]; exact h2
  · rw [last_snoc]; exact hs
theorem own_kind {W : World} {base g cv : Nat} {l : List Th} {t : Th} (h : W.ownsRow base 106 257 (.slice (some ⟨g, 0, none⟩) (l ++ [t]).length cv) (l ++ [t]).length (tvs (l ++ [t]))) (k : Nat) :
    (W.setCell ⟨g, l.length * 257, none⟩ (.int .i64 (k : Int))).ownsRow base 106 257 (.slice (some ⟨g, 0, none⟩) (l ++ [(⟨k, t.s⟩ : Th)]).length cv) (l ++ [(⟨k, t.s⟩ : Th)]).length (tvs (l ++ [(⟨k, t.s⟩ : Th)])) := by
  have hlen : (l ++ [t]).length = l.length + 1 := by simp
  have hlen' : (l ++ [(⟨k, t.s⟩ : Th)]).length = l.length + 1 := by simp
  rw [hlen] at h
  rw [hlen']
  refine ⟨by rw [tvs_len]; simp, ?_⟩
  rcases h.2 with ⟨e, _⟩ | ⟨g', cap, cur, e1, h3, h4, h5, h6, h7, h8⟩
  · cases e
  · injection e1 with e1 _ e2
    injection e1 with e1
    injection e1 with e1 _ _
    subst e1 e2
    refine .inr ⟨g, cv, cur.setIfInBounds (l.length * 257) (.int .i64 (k : Int)), rfl, h3, heap_setCell_same _ _ _ _ _ _ h4, h5, h6, by simpa using h7, ?_⟩
    rw [Array.toList_setIfInBounds, List.take_set, h8, tvs_snoc, tvs_snoc, List.set_append]
    rw [if_neg (by rw [tvs_len]; omega), tvs_len]
    simp [tvl]
theorem own_t {W : World} {base e s n T : Nat} {v : Value} {xs : List Value} (h : W.ownsRow base e s v n xs) (hT : W.heap.size ≤ T) : v.ownBlock ≠ some T := fun hh => by
  have := own_lt h hh; omega

set_option maxRecDepth 8000 in
set_option maxHeartbeats 16000000 in
theorem things_plain (w : World) (g o n c : Nat) (p : List UInt8) (h0 : n ≠ 0) (hn256 : n ≤ 256) (h94 : bn p 0 ≠ 94) (HT : Hid (Tx w (some ⟨g, o, none⟩) n c p)) :
    Calls Try.prog 33 #[.slice (some ⟨g, o, none⟩) n c] w fun e w' => ThiP w p e w' := by
  obtain ⟨i0, hi, hz0, hz1, hz2⟩ : ∃ i, Try.prog.info? 106 = some i ∧ i.zero = some (.agg (tv 0 fun _ => false)) ∧ i.size = 257 ∧ i.bytes = 264 := by
    have := info76
    cases h : Try.prog.info? 106 with
    | none => rw [h] at this; cases this
    | some i => rw [h] at this; simp at this; exact ⟨i, rfl, this.1, this.2.1, this.2.2⟩
  have hn : p.length = n := HT.out.len
  have h' : ¬ ((256 : Int) < (n : Int)) := by omega
  have h'd : decide ((256 : Int) < (n : Int)) = false := decide_eq_false h'
  have hnI : (n : Int) ≤ 256 := by omega
  obtain ⟨R, HR⟩ : ∃ R, Hid (cmp p = R) := ⟨_, rfl⟩
  have hz := z76
  have hz74 := z74
  have HCW : Hid (∀ j, j < n → w.cell? ⟨g, o + j, none⟩ = some (.int .u8 (bn p j : Int))) := by
    obtain ⟨g', o', e1, hc⟩ := HT.out.at (by omega)
    injection e1 with e1; injection e1 with e1 e2 _; subst e1 e2; exact hc
  have h0' : (0 : Int) < (n : Int) := by omega
  have c00 := HCW.out 0 (by omega)
  rw [Nat.add_zero] at c00
  have HI0 : Hid (∀ q, q = 0 → bn p q ≠ 94) := fun q hq => by subst hq; exact h94
  obtain ⟨x0, HX0⟩ : ∃ y, Hid (bn p 0 = y) := ⟨_, rfl⟩
  rw [HX0.out] at c00 h94
  have h94' : ((x0 : Int) == 94) = false := by simp; omega
  clear h94
  go_enter Try.func33, Try.ntmps33
  go_wp2_with fail
  go_loopg [5, 6, 7, 8, 9, 10, 11, 12, 13, 14] n (fun m x5 x6 x7 x8 x9 x10 x11 x12 x13 x14 wx => ∃ (i : Nat) (l rl : List Th) (st ba : Bool) (v : Value), x6 = .int .i64 (i : Int) ∧ x5 = v ∧ x7 = .bool st ∧ x8 = .bool ba ∧ i ≤ n ∧ n ≤ m + i ∧ l.length ≤ i ∧ rl.length ≤ i ∧ Flg l st ba ∧ Req l rl ∧ Hid (wx.ownsRow w.heap.size 106 257 v rl.length (tvs rl)) ∧ Hid (Below w.heap.size w wx) ∧ Hid (rdA p m i l = R))
  case atStart => exact ⟨0, [], [], false, true, .slice none 0 0, rfl, rfl, rfl, rfl, by omega, by omega, Nat.le_refl _, Nat.le_refl _, .inl ⟨rfl, .inl rfl⟩, Req.nil, ⟨rfl, .inl ⟨rfl, rfl⟩⟩, Below.refl _ _, by have := HR.out; unfold cmp at this; rw [hn] at this; exact this⟩
  case round =>
    obtain ⟨i, l, rl, st, ba, v, rfl, rfl, rfl, rfl, hi1, hm, hl, hrl, hfl, hrq, HO, HB, HA⟩ := hrel
    have HRQ := Hid.mk' hrq
    have HFL := Hid.mk' hfl
    clear hrq hfl
    obtain ⟨av, cv, ev⟩ := own_shape HO.out
    subst ev
    by_cases hin : i < n
    · have hin' : (i : Int) < (n : Int) := by omega
      obtain ⟨m, hmm⟩ : ∃ m, gk = m + 1 := ⟨gk - 1, by omega⟩
      subst hmm
      have H0 : Hid (¬ (bn p i = 94 ∧ i = 0)) := fun h => HI0.out i h.2 h.1
      have dx := keepC HB.out (HCW.out i hin)
      have hlt := bn_lt p i
      have hA := HA.out
      rw [rdA_go (by omega)] at hA
      clear HA
      obtain ⟨x, HX⟩ : ∃ y, Hid (bn p i = y) := ⟨_, rfl⟩
      rw [HX.out] at dx hlt H0
      have C1 := Hid.mk' (fun W => rone_any x W hlt)
      by_cases k1 : x = 42
      · subst k1
        rcases HFL.out with ⟨hb, hlast⟩ | ⟨hb, hne, hk2, hst⟩
        · subst hb
          have HRD : Hid (rd1 p i l = (-1, i + 1, l ++ [one fun y => y == 42])) := by unfold Hid rd1; rw [HX.out]; simp [hlast]
          have HA2 : Hid (rdA p m (i + 1) (l ++ [one fun y => y == 42]) = R) := by have := hA; rw [HRD.out] at this; dsimp only at this; rw [if_pos rfl] at this; exact this
          clear hA HRD
          clear hlast
          go_wp2_with fail
          refine (C1.out _).mono ?_
          rintro e wA ⟨rfl, hbA⟩
          have HBA := Hid.mk' (bT HB.out hbA)
          have HOA := Hid.mk' (own_keep HO.out hbA)
          have HTT := Hid.mk' (own_t HOA.out (Nat.le_refl _))
          have KZ := Hid.mk' (Blk.new wA 106 (tv 0 fun _ => false))
          have hsz : w.heap.size ≤ wA.heap.size := HBA.out.size
          clear HB HO hbA C1 dx
          go_wp2_with (first | (refine wl_build76 (f := fun y => y == 42) (.tmp 40) rfl rfl rfl ?_) | (refine wl_store76 (k := 0) (f := fun y => y == 42) (k' := 0) (g := fun _ => false) (.tmp 10) (.tmp 41) rfl rfl rfl rfl KZ.out ?_; have KT := Hid.mk' (KZ.out.put76 0 (fun y => y == 42)); have HB : Hid (Below w.heap.size w (put76 (wA.alloc (.cells (tv 0 fun _ => false) 106)) wA.heap.size 0 (fun y => y == 42))) := below_setCells hsz (tvl 0 fun y => y == 42) 0 (bAlloc HBA.out _); have HO : Hid ((put76 (wA.alloc (.cells (tv 0 fun _ => false) 106)) wA.heap.size 0 (fun y => y == 42)).ownsRow w.heap.size 106 257 (.slice av rl.length cv) rl.length (tvs rl)) := own_setCells HTT.out _ 0 (HOA.out.alloc _); clear KZ HBA HOA; generalize put76 (wA.alloc (.cells (tv 0 fun _ => false) 106)) wA.heap.size 0 (fun y => y == 42) = wB at *) | (refine wl_load76 (k := 0) (f := fun y => y == 42) (.tmp 10) rfl rfl rfl KT.out ?_) | (refine wl_bs54 (k := 0) (f := fun y => y == 42) (.tmp 127) rfl rfl rfl ?_) | (at_builtin; refine append_srv rfl (.tmp 126) (.tmp 128) 71 rfl w.heap.size 106 i0 (.agg (tv 0 fun _ => false)) 257 264 Try.underlying71 hi hz0 hz1 hz2 (by simp [Value.cells, tv, tvl_len]) (by decide) (.slice av rl.length cv) rl.length (tvs rl) rfl (HO.out.alloc _) (.slice (some ⟨wB.heap.size, 0, none⟩) 1 1) 1 (tvl (0) (fun y => y == 42)) rfl (.inr ⟨⟨wB.heap.size, 0, none⟩, 1, rfl, fun k u hk => lit_cells wB _ 106 k u hk⟩) (by rw [tvl_len]) (tvl_one _ _) (by unfold maxLen; omega) (by omega) (bAlloc HB.out _).size ?_))
          intro v5 w5 hown hgrow _
          have L5 : Hid (Below w.heap.size w w5) := (bAlloc HB.out _).grown hgrow (bAlloc HB.out _).size (fun k hk => (HO.out.lt k hk).1)
          have O5 : Hid (w5.ownsRow w.heap.size 106 257 v5 (rl.length + 1) (tvs (rl ++ [(⟨0, fun y => y == 42⟩ : Th)]))) := by unfold Hid; rw [tvs_snoc]; exact hown
          have KT5 := Hid.mk' (grow_blk (KT.out.keep (bAlloc (Below.refl _ _) (.cells (tv (0) (fun y => y == 42)) 106))) hgrow HTT.out)
          have k5 := KT5.out.k76
          clear hown hgrow HO HB KT
          obtain ⟨av5, cv5, ev5⟩ := own_shape O5.out
          subst ev5
          have HQ := Hid.mk' (HRQ.out.snoc (t := one fun y => y == 42) (rt := (⟨0, fun y => y == 42⟩ : Th)) rfl (fun _ => rfl))
          go_wp2
          go_roundg m
          case measure => omega
          case rel => exact ⟨i + 1, l ++ [one fun y => y == 42], rl ++ [(⟨0, fun y => y == 42⟩ : Th)], false, false, _, by go_num, rfl, rfl, rfl, by omega, by omega, by simp; omega, by simp; omega, Flg.snoc (by intro h; cases h) rfl, HQ.out, (by show World.ownsRow _ _ _ _ _ (rl ++ [_]).length _; rw [List.length_append]; exact O5.out), L5.out, HA2.out⟩
        · subst hb
          cases st with
          | true =>
            have hk0 : (th l (l.length - 1)).k ≠ 0 := by simpa using hst.symm
            have HRD : Hid (rd1 p i l = ((i : Int), i, l)) := by unfold Hid rd1; rw [HX.out]; simp [hne, hk2, hk0]
            have HA2 : Hid (((i : Int), []) = R) := by have := hA; rw [HRD.out] at this; dsimp only at this; rw [if_neg (by omega)] at this; exact this
            clear hA HRD hst hk0 hk2 hne
            go_wp2_with fail
            refine (C1.out _).mono ?_
            rintro e wA ⟨rfl, hbA⟩
            have HBA := Hid.mk' (bT HB.out hbA)
            have HOA := Hid.mk' (own_keep HO.out hbA)
            have HTT := Hid.mk' (own_t HOA.out (Nat.le_refl _))
            have KZ := Hid.mk' (Blk.new wA 106 (tv 0 fun _ => false))
            have hsz : w.heap.size ≤ wA.heap.size := HBA.out.size
            clear HB HO hbA C1 dx
            go_wp2_with (first | (refine wl_build76 (f := fun y => y == 42) (.tmp 40) rfl rfl rfl ?_) | (refine wl_store76 (k := 0) (f := fun y => y == 42) (k' := 0) (g := fun _ => false) (.tmp 10) (.tmp 41) rfl rfl rfl rfl KZ.out ?_; have KT := Hid.mk' (KZ.out.put76 0 (fun y => y == 42)); have HB : Hid (Below w.heap.size w (put76 (wA.alloc (.cells (tv 0 fun _ => false) 106)) wA.heap.size 0 (fun y => y == 42))) := below_setCells hsz (tvl 0 fun y => y == 42) 0 (bAlloc HBA.out _); have HO : Hid ((put76 (wA.alloc (.cells (tv 0 fun _ => false) 106)) wA.heap.size 0 (fun y => y == 42)).ownsRow w.heap.size 106 257 (.slice av rl.length cv) rl.length (tvs rl)) := own_setCells HTT.out _ 0 (HOA.out.alloc _); clear KZ HBA HOA; generalize put76 (wA.alloc (.cells (tv 0 fun _ => false) 106)) wA.heap.size 0 (fun y => y == 42) = wB at *))
            refine bodyPost_ret (results_tmp3 rfl _ _ _) rfl ?_
            exact ⟨HB.out, .inr (.inl ⟨by omega, by rw [HR.out, ← HA2.out]; show (i : Int) ≠ -1; omega, by rw [HR.out, ← HA2.out]; rfl⟩)⟩
          | false =>
            have hk0 : (th l (l.length - 1)).k = 0 := by simpa using hst.symm
            have HRD : Hid (rd1 p i l = (-1, i + 1, l.dropLast ++ [many (th l (l.length - 1)).s])) := by unfold Hid rd1; rw [HX.out]; simp [hne, hk0]
            have HA2 : Hid (rdA p m (i + 1) (l.dropLast ++ [many (th l (l.length - 1)).s]) = R) := by have := hA; rw [HRD.out] at this; dsimp only at this; rw [if_pos rfl] at this; exact this
            clear hA HRD

            have HQ0 := HRQ.out.star hne hk0
            have hpos : 0 < l.length := List.length_pos_iff.2 hne
            have HRLL := Hid.mk' HRQ.out.len
            have hrne : rl ≠ [] := List.length_pos_iff.1 (by have := HRLL.out; omega)
            have hr5 : 0 < rl.length := List.length_pos_iff.2 hrne
            obtain ⟨l0, t0, hr0, ht0⟩ : ∃ l0 t0, rl = l0 ++ [t0] ∧ (l0 = rl.dropLast ∧ t0 = th rl (rl.length - 1)) := ⟨_, _, drop_last hrne, rfl, rfl⟩
            rw [← ht0.1, show th rl (l.length - 1) = t0 by rw [ht0.2, HRLL.out]] at HQ0
            have HQ := Hid.mk' HQ0
            have HR0 := Hid.mk' hr0
            have HROW : Hid (∀ W : World, W.ownsRow w.heap.size 106 257 (.slice av rl.length cv) rl.length (tvs rl) → ∃ gv, av = some ⟨gv, 0, none⟩ ∧ W.cell? ⟨gv, (rl.length - 1) * 257, none⟩ = some (.int .i64 (t0.k : Int)) ∧ W.frozen? ⟨gv, (rl.length - 1) * 257, none⟩ = false) := by
              intro W hW
              obtain ⟨gv, cp, e1, _, _⟩ := own_some hW hr5
              injection e1 with e1 _ _
              subst e1
              refine ⟨gv, rfl, row_cell hW ?_, ?_⟩
              · rw [hr0, tvs_snoc, List.length_append, List.length_singleton, Nat.add_sub_cancel, List.getElem?_append_right (by rw [tvs_len]; exact Nat.le_refl _), tvs_len, Nat.sub_self]; rfl
              · rcases hW.2 with ⟨e, _⟩ | ⟨g', cap, cur, e1, h3, h4, _⟩
                · cases e
                · injection e1 with e1 _ _
                  injection e1 with e1
                  injection e1 with e1 _ _
                  subst e1
                  exact frozen_of_row _ _ _ _ _ h4
            obtain ⟨gv, eav, _⟩ := HROW.out wr HO.out
            subst eav
            clear hst hk2 hne hk0 hrne HQ0 hr0 ht0
            go_wp2_with fail
            refine (C1.out _).mono ?_
            rintro e wA ⟨rfl, hbA⟩
            have HBA := Hid.mk' (bT HB.out hbA)
            have HOA := Hid.mk' (own_keep HO.out hbA)
            have HTT := Hid.mk' (own_t HOA.out (Nat.le_refl _))
            have KZ := Hid.mk' (Blk.new wA 106 (tv 0 fun _ => false))
            have hsz : w.heap.size ≤ wA.heap.size := HBA.out.size
            clear HB HO hbA C1 dx
            have hr1 : (0 : Int) < (rl.length : Int) := by omega
            have hr2 : (rl.length : Int) ≤ 256 := by omega
            have hr3 : (0 : Int) ≤ (rl.length : Int) - 1 := by omega
            have hr4 : ((rl.length : Int) - 1).toNat = rl.length - 1 := by omega
            have hr6 : (rl.length : Int) - 1 < (rl.length : Int) := by omega
            go_wp2_with (first | (refine wl_build76 (f := fun y => y == 42) (.tmp 40) rfl rfl rfl ?_) | (refine wl_store76 (k := 0) (f := fun y => y == 42) (k' := 0) (g := fun _ => false) (.tmp 10) (.tmp 41) rfl rfl rfl rfl KZ.out ?_; have KT := Hid.mk' (KZ.out.put76 0 (fun y => y == 42)); have HB : Hid (Below w.heap.size w (put76 (wA.alloc (.cells (tv 0 fun _ => false) 106)) wA.heap.size 0 (fun y => y == 42))) := below_setCells hsz (tvl 0 fun y => y == 42) 0 (bAlloc HBA.out _); have HO : Hid ((put76 (wA.alloc (.cells (tv 0 fun _ => false) 106)) wA.heap.size 0 (fun y => y == 42)).ownsRow w.heap.size 106 257 (.slice (some ⟨gv, 0, none⟩) rl.length cv) rl.length (tvs rl)) := own_setCells HTT.out _ 0 (HOA.out.alloc _); clear KZ HBA HOA; generalize put76 (wA.alloc (.cells (tv 0 fun _ => false) 106)) wA.heap.size 0 (fun y => y == 42) = wB at *; obtain ⟨gv', egv, rc, zc⟩ := HROW.out wB HO.out; injection egv with egv; injection egv with egv _ _; subst egv))
            go_roundg m
            case measure => omega
            case rel =>
              have hr0 := HR0.out
              subst hr0
              have hk := own_kind HO.out 1
              have hgv := (HO.out.lt gv rfl).1
              rw [show (l0 ++ [t0]).length - 1 = l0.length by simp]
              have e1 : (l0 ++ [t0]).length = l0.length + 1 := by simp
              have e2 : (l0 ++ [(⟨1, t0.s⟩ : Th)]).length = l0.length + 1 := by simp
              rw [e2] at hk
              rw [e1]
              rw [e1] at hrl
              exact ⟨i + 1, _, l0 ++ [(⟨1, t0.s⟩ : Th)], true, false, _, by go_num, rfl, rfl, rfl, by omega, by omega, by simp; omega, by rw [e2]; omega, Flg.snoc (by intro h; cases h) rfl, HQ.out, (by show World.ownsRow _ _ _ _ _ (l0 ++ [_]).length _; rw [e2]; exact hk), HB.out.setCell hgv _, HA2.out⟩
      · have k1' : ((x : Int) == 42) = false := by simp; omega
        by_cases k2 : x = 36 ∧ i + 1 = n
        · obtain ⟨k2a, k2b⟩ := k2
          subst k2a
          have HRD : Hid (rd1 p i l = (-1, i + 1, l ++ [fre 3])) := by unfold Hid rd1; rw [HX.out, hn]; simp [k2b]
          have k2' : ((i : Int) == (n : Int) - 1) = true := by simp; omega
          have HA2 : Hid (rdA p m (i + 1) (l ++ [fre 3]) = R) := by have := hA; rw [HRD.out] at this; dsimp only at this; rw [if_pos rfl] at this; exact this
          clear hA HRD
          clear k2b
          go_wp2_with fail
          refine (C1.out _).mono ?_
          rintro e wA ⟨rfl, hbA⟩
          have HBA := Hid.mk' (bT HB.out hbA)
          have HOA := Hid.mk' (own_keep HO.out hbA)
          have HTT := Hid.mk' (own_t HOA.out (Nat.le_refl _))
          have KZ := Hid.mk' (Blk.new wA 106 (tv 0 fun _ => false))
          have hsz : w.heap.size ≤ wA.heap.size := HBA.out.size
          clear HB HO hbA C1 dx
          go_wp2_with (first | (refine wl_build76 (f := fun y => y == 36) (.tmp 40) rfl rfl rfl ?_) | (refine wl_store76 (k := 0) (f := fun y => y == 36) (k' := 0) (g := fun _ => false) (.tmp 10) (.tmp 41) rfl rfl rfl rfl KZ.out ?_; have KT := Hid.mk' (KZ.out.put76 0 (fun y => y == 36)); have HB : Hid (Below w.heap.size w (put76 (wA.alloc (.cells (tv 0 fun _ => false) 106)) wA.heap.size 0 (fun y => y == 36))) := below_setCells hsz (tvl 0 fun y => y == 36) 0 (bAlloc HBA.out _); have HO : Hid ((put76 (wA.alloc (.cells (tv 0 fun _ => false) 106)) wA.heap.size 0 (fun y => y == 36)).ownsRow w.heap.size 106 257 (.slice av rl.length cv) rl.length (tvs rl)) := own_setCells HTT.out _ 0 (HOA.out.alloc _); clear KZ HBA HOA; generalize put76 (wA.alloc (.cells (tv 0 fun _ => false) 106)) wA.heap.size 0 (fun y => y == 36) = wB at *; have kc := KT.out.k76; have kz := KT.out.frozen 0; have KT3 := Hid.mk' (KT.out.kind76 3); have HB3 : Hid (Below w.heap.size w (wB.setCell ⟨wA.heap.size, 0, none⟩ (.int .i64 3))) := HB.out.setCell hsz _; have HO3 := Hid.mk' (own_setCell (j := 0) (u := .int .i64 3) HO.out HTT.out); clear KT HB HO; have KT := KT3; have HB := HB3; have HO := HO3; clear KT3 HB3 HO3) | (refine wl_load76 (k := 3) (f := fun y => y == 36) (.tmp 10) rfl rfl rfl KT.out ?_) | (refine wl_bs54 (k := 3) (f := fun y => y == 36) (.tmp 127) rfl rfl rfl ?_) | (at_builtin; refine append_srv rfl (.tmp 126) (.tmp 128) 71 rfl w.heap.size 106 i0 (.agg (tv 0 fun _ => false)) 257 264 Try.underlying71 hi hz0 hz1 hz2 (by simp [Value.cells, tv, tvl_len]) (by decide) (.slice av rl.length cv) rl.length (tvs rl) rfl (HO.out.alloc _) (.slice (some ⟨(wB.setCell ⟨wA.heap.size, 0, none⟩ (.int .i64 3)).heap.size, 0, none⟩) 1 1) 1 (tvl (3) (fun y => y == 36)) rfl (.inr ⟨⟨(wB.setCell ⟨wA.heap.size, 0, none⟩ (.int .i64 3)).heap.size, 0, none⟩, 1, rfl, fun k u hk => lit_cells (wB.setCell ⟨wA.heap.size, 0, none⟩ (.int .i64 3)) _ 106 k u hk⟩) (by rw [tvl_len]) (tvl_one _ _) (by unfold maxLen; omega) (by omega) (bAlloc HB.out _).size ?_))
          intro v5 w5 hown hgrow _
          have L5 : Hid (Below w.heap.size w w5) := (bAlloc HB.out _).grown hgrow (bAlloc HB.out _).size (fun k hk => (HO.out.lt k hk).1)
          have O5 : Hid (w5.ownsRow w.heap.size 106 257 v5 (rl.length + 1) (tvs (rl ++ [(⟨3, fun y => y == 36⟩ : Th)]))) := by unfold Hid; rw [tvs_snoc]; exact hown
          have KT5 := Hid.mk' (grow_blk (KT.out.keep (bAlloc (Below.refl _ _) (.cells (tv (3) (fun y => y == 36)) 106))) hgrow HTT.out)
          have k5 := KT5.out.k76
          clear hown hgrow HO HB KT
          obtain ⟨av5, cv5, ev5⟩ := own_shape O5.out
          subst ev5
          have HQ := Hid.mk' (HRQ.out.snoc (t := fre 3) (rt := (⟨3, fun y => y == 36⟩ : Th)) rfl (fun h => absurd h (by decide)))
          go_wp2
          go_roundg m
          case measure => omega
          case rel => exact ⟨i + 1, l ++ [fre 3], rl ++ [(⟨3, fun y => y == 36⟩ : Th)], true, false, _, by go_num, rfl, rfl, rfl, by omega, by omega, by simp; omega, by simp; omega, Flg.snoc (by intro h; cases h) rfl, HQ.out, (by show World.ownsRow _ _ _ _ _ (rl ++ [_]).length _; rw [List.length_append]; exact O5.out), L5.out, HA2.out⟩
        · have k2d : ((x : Int) == 36) = false ∨ (((x : Int) == 36) = true ∧ ((i : Int) == (n : Int) - 1) = false) := by
            by_cases h : x = 36
            · exact .inr ⟨by simp; omega, by simp; omega⟩
            · exact .inl (by simp; omega)
          by_cases k3 : x = 46
          · subst k3
            have HRD : Hid (rd1 p i l = (-1, i + 1, l ++ [one fun _ => true])) := by unfold Hid rd1; rw [HX.out]; simp
            clear k2d k2 k1'
            have C31 := Hid.mk' rall_any
            have HA2 : Hid (rdA p m (i + 1) (l ++ [one fun _ => true]) = R) := by have := hA; rw [HRD.out] at this; dsimp only at this; rw [if_pos rfl] at this; exact this
            clear hA HRD
            go_wp2_with fail
            refine (C1.out _).mono ?_
            rintro e wA ⟨rfl, hbA⟩
            have HBA := Hid.mk' (bT HB.out hbA)
            have HOA := Hid.mk' (own_keep HO.out hbA)
            have HTT := Hid.mk' (own_t HOA.out (Nat.le_refl _))
            have KZ := Hid.mk' (Blk.new wA 106 (tv 0 fun _ => false))
            have hsz : w.heap.size ≤ wA.heap.size := HBA.out.size
            clear HB HO hbA C1 dx
            go_wp2_with (first | (refine wl_build76 (f := fun y => y == 46) (.tmp 40) rfl rfl rfl ?_) | (refine wl_store76 (k := 0) (f := fun y => y == 46) (k' := 0) (g := fun _ => false) (.tmp 10) (.tmp 41) rfl rfl rfl rfl KZ.out ?_; have KT := Hid.mk' (KZ.out.put76 0 (fun y => y == 46)); have HB : Hid (Below w.heap.size w (put76 (wA.alloc (.cells (tv 0 fun _ => false) 106)) wA.heap.size 0 (fun y => y == 46))) := below_setCells hsz (tvl 0 fun y => y == 46) 0 (bAlloc HBA.out _); have HO : Hid ((put76 (wA.alloc (.cells (tv 0 fun _ => false) 106)) wA.heap.size 0 (fun y => y == 46)).ownsRow w.heap.size 106 257 (.slice av rl.length cv) rl.length (tvs rl)) := own_setCells HTT.out _ 0 (HOA.out.alloc _); clear KZ HBA HOA; generalize put76 (wA.alloc (.cells (tv 0 fun _ => false) 106)) wA.heap.size 0 (fun y => y == 46) = wB at *) | (go_at_call 60; refine (C31.out _).mono ?_; rintro e wC ⟨rfl, hbC⟩; have KTC := Hid.mk' (KT.out.keep hbC); have HBC := Hid.mk' (bT HB.out hbC); have HOC := Hid.mk' (own_keep HO.out hbC); clear KT HB HO hbC) | (refine wl_stores76 (f := fun _ => true) (k := 0) (g := fun y => y == 46) (.tmp 76) (.tmp 75) rfl rfl rfl rfl KTC.out ?_; have KT := Hid.mk' (KTC.out.puts76 fun _ => true); have HB : Hid (Below w.heap.size w (puts76 wC wA.heap.size fun _ => true)) := below_setCells hsz (svl fun _ => true) 1 HBC.out; have HO : Hid ((puts76 wC wA.heap.size fun _ => true).ownsRow w.heap.size 106 257 (.slice av rl.length cv) rl.length (tvs rl)) := own_setCells HTT.out _ 1 HOC.out; clear KTC HBC HOC; generalize puts76 wC wA.heap.size (fun _ => true) = wD at *) | (refine wl_load76 (k := 0) (f := fun _ => true) (.tmp 10) rfl rfl rfl KT.out ?_) | (refine wl_bs54 (k := 0) (f := fun _ => true) (.tmp 127) rfl rfl rfl ?_) | (at_builtin; refine append_srv rfl (.tmp 126) (.tmp 128) 71 rfl w.heap.size 106 i0 (.agg (tv 0 fun _ => false)) 257 264 Try.underlying71 hi hz0 hz1 hz2 (by simp [Value.cells, tv, tvl_len]) (by decide) (.slice av rl.length cv) rl.length (tvs rl) rfl (HO.out.alloc _) (.slice (some ⟨wD.heap.size, 0, none⟩) 1 1) 1 (tvl (0) (fun _ => true)) rfl (.inr ⟨⟨wD.heap.size, 0, none⟩, 1, rfl, fun k u hk => lit_cells wD _ 106 k u hk⟩) (by rw [tvl_len]) (tvl_one _ _) (by unfold maxLen; omega) (by omega) (bAlloc HB.out _).size ?_))
            intro v5 w5 hown hgrow _
            have L5 : Hid (Below w.heap.size w w5) := (bAlloc HB.out _).grown hgrow (bAlloc HB.out _).size (fun k hk => (HO.out.lt k hk).1)
            have O5 : Hid (w5.ownsRow w.heap.size 106 257 v5 (rl.length + 1) (tvs (rl ++ [(⟨0, fun _ => true⟩ : Th)]))) := by unfold Hid; rw [tvs_snoc]; exact hown
            have KT5 := Hid.mk' (grow_blk (KT.out.keep (bAlloc (Below.refl _ _) (.cells (tv (0) (fun _ => true)) 106))) hgrow HTT.out)
            have k5 := KT5.out.k76
            clear hown hgrow HO HB KT
            obtain ⟨av5, cv5, ev5⟩ := own_shape O5.out
            subst ev5
            have HQ := Hid.mk' (HRQ.out.snoc (t := one fun _ => true) (rt := (⟨0, fun _ => true⟩ : Th)) rfl (fun _ => rfl))
            go_wp2
            go_roundg m
            case measure => omega
            case rel => exact ⟨i + 1, l ++ [one fun _ => true], rl ++ [(⟨0, fun _ => true⟩ : Th)], false, false, _, by go_num, rfl, rfl, rfl, by omega, by omega, by simp; omega, by simp; omega, Flg.snoc (by intro h; cases h) rfl, HQ.out, (by show World.ownsRow _ _ _ _ _ (rl ++ [_]).length _; rw [List.length_append]; exact O5.out), L5.out, HA2.out⟩
          · have k3' : ((x : Int) == 46) = false := by simp; omega
            by_cases k4 : x = 91
            · subst k4
              clear k1' k2 k2d k3'
              have hend := sR_end (p := p) (i := i) (by omega)
              have C32 := fun W (h : Tx W (some ⟨g, o, none⟩) n c p) => rset_any W (some ⟨g, o, none⟩) n c i p hin hn hn256 h
              have hrs : rd1 p i l = setR p i l := by unfold rd1; rw [HX.out]; simp [setR]
              unfold setR at hrs
              unfold RsetP at C32
              rw [hn] at hrs C32 hend
              by_cases hE : (sR p i).1 = n
              · rw [if_pos hE] at hrs
                simp only [hE, if_true] at C32
                have C32 := Hid.mk' C32
                have HA2 : Hid (((i : Int), []) = R) := by have := hA; rw [hrs] at this; dsimp only at this; rw [if_neg (by omega)] at this; exact this
                clear hA hrs hE hend
                go_wp2_with fail
                refine (C1.out _).mono ?_
                rintro e wA ⟨rfl, hbA⟩
                have HBA := Hid.mk' (bT HB.out hbA)
                have HOA := Hid.mk' (own_keep HO.out hbA)
                have HTT := Hid.mk' (own_t HOA.out (Nat.le_refl _))
                have KZ := Hid.mk' (Blk.new wA 106 (tv 0 fun _ => false))
                have hsz : w.heap.size ≤ wA.heap.size := HBA.out.size
                clear HB HO hbA C1 dx
                go_wp2_with (first | (refine wl_build76 (f := fun y => y == 91) (.tmp 40) rfl rfl rfl ?_) | (refine wl_store76 (k := 0) (f := fun y => y == 91) (k' := 0) (g := fun _ => false) (.tmp 10) (.tmp 41) rfl rfl rfl rfl KZ.out ?_; have KT := Hid.mk' (KZ.out.put76 0 (fun y => y == 91)); have HB : Hid (Below w.heap.size w (put76 (wA.alloc (.cells (tv 0 fun _ => false) 106)) wA.heap.size 0 (fun y => y == 91))) := below_setCells hsz (tvl 0 fun y => y == 91) 0 (bAlloc HBA.out _); have HO : Hid ((put76 (wA.alloc (.cells (tv 0 fun _ => false) 106)) wA.heap.size 0 (fun y => y == 91)).ownsRow w.heap.size 106 257 (.slice av rl.length cv) rl.length (tvs rl)) := own_setCells HTT.out _ 0 (HOA.out.alloc _); clear KZ HBA HOA; generalize put76 (wA.alloc (.cells (tv 0 fun _ => false) 106)) wA.heap.size 0 (fun y => y == 91) = wB at *) | (go_at_call 61; refine (C32.out _ (HT.out.keep HB.out)).mono ?_; rintro e wC ⟨hbC, f, he, hf⟩; subst he; have KTC := Hid.mk' (KT.out.keep hbC); have HBC := Hid.mk' (bT HB.out hbC); have HOC := Hid.mk' (own_keep HO.out hbC); have hTC : wA.heap.size < wC.heap.size := Nat.lt_of_lt_of_le KT.out.lt hbC.size; have KZ4 := Hid.mk' (Blk.new wC 104 (sv fun _ => false)); clear KT HB HO hbC) | (refine wl_store74 (f := f) (g := fun _ => false) (.tmp 12) (.tmp 85) rfl rfl rfl rfl KZ4.out ?_; have KS := Hid.mk' (KZ4.out.put74 f); have KT : Hid (Blk (put74 (wC.alloc (.cells (sv fun _ => false) 104)) wC.heap.size f) wA.heap.size 106 (tv 0 fun y => y == 91)) := blk_setCells_off (by omega) (svl f) 0 (KTC.out.keep (bAlloc (Below.refl _ _) _)); have HB : Hid (Below w.heap.size w (put74 (wC.alloc (.cells (sv fun _ => false) 104)) wC.heap.size f)) := below_setCells (by omega) (svl f) 0 (bAlloc HBC.out _); have HO : Hid ((put74 (wC.alloc (.cells (sv fun _ => false) 104)) wC.heap.size f).ownsRow w.heap.size 106 257 (.slice av rl.length cv) rl.length (tvs rl)) := own_setCells (own_t HOC.out (Nat.le_refl _)) _ 0 (HOC.out.alloc _); clear KTC HBC HOC KZ4; generalize put74 (wC.alloc (.cells (sv fun _ => false) 104)) wC.heap.size f = wD at *))
                refine bodyPost_ret (results_tmp3 rfl _ _ _) rfl ?_
                exact ⟨HB.out, .inr (.inl ⟨by omega, by rw [HR.out, ← HA2.out]; show (i : Int) ≠ -1; omega, by rw [HR.out, ← HA2.out]; rfl⟩)⟩
              · rw [if_neg hE] at hrs
                simp only [if_neg hE] at C32
                obtain ⟨E, hEE⟩ : ∃ E, (sR p i).1 = E := ⟨_, rfl⟩
                obtain ⟨SS, hSS⟩ : ∃ S, (if ngd p i = true then fun x => !(sR p i).2.1 x else (sR p i).2.1) = S := ⟨_, rfl⟩
                obtain ⟨F, hFF⟩ : ∃ F, (sR p i).2.2 = F := ⟨_, rfl⟩
                rw [hEE, hSS, hFF] at hrs
                simp only [hEE, hSS, hFF] at C32
                rw [hEE, hFF] at hend
                rw [hEE] at hE
                have C32 := Hid.mk' C32
                clear hEE hSS hFF
                by_cases hF : F = -1
                · subst hF
                  have HRD := Hid.mk' hrs
                  clear hrs
                  have HA2 : Hid (rdA p m (E + 1) (l ++ [one SS]) = R) := by have := hA; rw [HRD.out] at this; dsimp only at this; rw [if_pos rfl] at this; exact this
                  clear hA HRD

                  have hE2 : E + 1 ≤ n := by omega
                  have hE3 : i + 1 ≤ E := hend.1
                  clear hend
                  go_wp2_with fail
                  refine (C1.out _).mono ?_
                  rintro e wA ⟨rfl, hbA⟩
                  have HBA := Hid.mk' (bT HB.out hbA)
                  have HOA := Hid.mk' (own_keep HO.out hbA)
                  have HTT := Hid.mk' (own_t HOA.out (Nat.le_refl _))
                  have KZ := Hid.mk' (Blk.new wA 106 (tv 0 fun _ => false))
                  have hsz : w.heap.size ≤ wA.heap.size := HBA.out.size
                  clear HB HO hbA C1 dx
                  go_wp2_with (first | (refine wl_build76 (f := fun y => y == 91) (.tmp 40) rfl rfl rfl ?_) | (refine wl_store76 (k := 0) (f := fun y => y == 91) (k' := 0) (g := fun _ => false) (.tmp 10) (.tmp 41) rfl rfl rfl rfl KZ.out ?_; have KT := Hid.mk' (KZ.out.put76 0 (fun y => y == 91)); have HB : Hid (Below w.heap.size w (put76 (wA.alloc (.cells (tv 0 fun _ => false) 106)) wA.heap.size 0 (fun y => y == 91))) := below_setCells hsz (tvl 0 fun y => y == 91) 0 (bAlloc HBA.out _); have HO : Hid ((put76 (wA.alloc (.cells (tv 0 fun _ => false) 106)) wA.heap.size 0 (fun y => y == 91)).ownsRow w.heap.size 106 257 (.slice av rl.length cv) rl.length (tvs rl)) := own_setCells HTT.out _ 0 (HOA.out.alloc _); clear KZ HBA HOA; generalize put76 (wA.alloc (.cells (tv 0 fun _ => false) 106)) wA.heap.size 0 (fun y => y == 91) = wB at *) | (go_at_call 61; refine (C32.out _ (HT.out.keep HB.out)).mono ?_; rintro e wC ⟨hbC, f, he, hf⟩; subst he; have hf2 : f = SS := (by first | exact hf | exact hf hE | exact hf trivial); clear hf; subst hf2; have KTC := Hid.mk' (KT.out.keep hbC); have HBC := Hid.mk' (bT HB.out hbC); have HOC := Hid.mk' (own_keep HO.out hbC); have hTC : wA.heap.size < wC.heap.size := Nat.lt_of_lt_of_le KT.out.lt hbC.size; have KZ4 := Hid.mk' (Blk.new wC 104 (sv fun _ => false)); clear KT HB HO hbC) | (refine wl_store74 (f := f) (g := fun _ => false) (.tmp 12) (.tmp 85) rfl rfl rfl rfl KZ4.out ?_; have KS := Hid.mk' (KZ4.out.put74 f); have KT : Hid (Blk (put74 (wC.alloc (.cells (sv fun _ => false) 104)) wC.heap.size f) wA.heap.size 106 (tv 0 fun y => y == 91)) := blk_setCells_off (by omega) (svl f) 0 (KTC.out.keep (bAlloc (Below.refl _ _) _)); have HB : Hid (Below w.heap.size w (put74 (wC.alloc (.cells (sv fun _ => false) 104)) wC.heap.size f)) := below_setCells (by omega) (svl f) 0 (bAlloc HBC.out _); have HO : Hid ((put74 (wC.alloc (.cells (sv fun _ => false) 104)) wC.heap.size f).ownsRow w.heap.size 106 257 (.slice av rl.length cv) rl.length (tvs rl)) := own_setCells (own_t HOC.out (Nat.le_refl _)) _ 0 (HOC.out.alloc _); clear KTC HBC HOC KZ4; generalize put74 (wC.alloc (.cells (sv fun _ => false) 104)) wC.heap.size f = wD at *) | (refine wl_load74 (f := f) (.tmp 12) rfl rfl rfl KS.out ?_) | (refine wl_stores76 (f := f) (k := 0) (g := fun y => y == 91) (.tmp 93) (.tmp 91) rfl rfl rfl rfl KT.out ?_; have KT9 := Hid.mk' (KT.out.puts76 f); have HB9 : Hid (Below w.heap.size w (puts76 wD wA.heap.size f)) := below_setCells hsz (svl f) 1 HB.out; have HO9 : Hid ((puts76 wD wA.heap.size f).ownsRow w.heap.size 106 257 (.slice av rl.length cv) rl.length (tvs rl)) := own_setCells HTT.out _ 1 HO.out; clear KT HB HO KS; have KT := KT9; have HB := HB9; have HO := HO9; clear KT9 HB9 HO9; generalize puts76 wD wA.heap.size f = wE at *) | (refine wl_load76 (k := 0) (f := f) (.tmp 10) rfl rfl rfl KT.out ?_) | (refine wl_bs54 (k := 0) (f := f) (.tmp 127) rfl rfl rfl ?_) | (at_builtin; refine append_srv rfl (.tmp 126) (.tmp 128) 71 rfl w.heap.size 106 i0 (.agg (tv 0 fun _ => false)) 257 264 Try.underlying71 hi hz0 hz1 hz2 (by simp [Value.cells, tv, tvl_len]) (by decide) (.slice av rl.length cv) rl.length (tvs rl) rfl (HO.out.alloc _) (.slice (some ⟨wE.heap.size, 0, none⟩) 1 1) 1 (tvl (0) (f)) rfl (.inr ⟨⟨wE.heap.size, 0, none⟩, 1, rfl, fun k u hk => lit_cells wE _ 106 k u hk⟩) (by rw [tvl_len]) (tvl_one _ _) (by unfold maxLen; omega) (by omega) (bAlloc HB.out _).size ?_))
                  intro v5 w5 hown hgrow _
                  have L5 : Hid (Below w.heap.size w w5) := (bAlloc HB.out _).grown hgrow (bAlloc HB.out _).size (fun k hk => (HO.out.lt k hk).1)
                  have O5 : Hid (w5.ownsRow w.heap.size 106 257 v5 (rl.length + 1) (tvs (rl ++ [(⟨0, f⟩ : Th)]))) := by unfold Hid; rw [tvs_snoc]; exact hown
                  have KT5 := Hid.mk' (grow_blk (KT.out.keep (bAlloc (Below.refl _ _) (.cells (tv (0) (f)) 106))) hgrow HTT.out)
                  have k5 := KT5.out.k76
                  clear hown hgrow HO HB KT
                  obtain ⟨av5, cv5, ev5⟩ := own_shape O5.out
                  subst ev5
                  have HQ := Hid.mk' (HRQ.out.snoc (t := one f) (rt := (⟨0, f⟩ : Th)) rfl (fun _ => rfl))
                  go_wp2
                  go_roundg m
                  case measure => omega
                  case rel => exact ⟨E + 1, l ++ [one f], rl ++ [(⟨0, f⟩ : Th)], false, false, _, by go_num, rfl, rfl, rfl, by omega, by omega, by simp; omega, by simp; omega, Flg.snoc (by intro h; cases h) rfl, HQ.out, (by show World.ownsRow _ _ _ _ _ (rl ++ [_]).length _; rw [List.length_append]; exact O5.out), L5.out, HA2.out⟩
                · have hF0 : 0 ≤ F := by omega
                  have HA2 : Hid ((F, []) = R) := by have := hA; rw [hrs] at this; dsimp only at this; rw [if_neg hF] at this; exact this
                  clear hA hrs hend
                  go_wp2_with fail
                  refine (C1.out _).mono ?_
                  rintro e wA ⟨rfl, hbA⟩
                  have HBA := Hid.mk' (bT HB.out hbA)
                  have HOA := Hid.mk' (own_keep HO.out hbA)
                  have HTT := Hid.mk' (own_t HOA.out (Nat.le_refl _))
                  have KZ := Hid.mk' (Blk.new wA 106 (tv 0 fun _ => false))
                  have hsz : w.heap.size ≤ wA.heap.size := HBA.out.size
                  clear HB HO hbA C1 dx
                  go_wp2_with (first | (refine wl_build76 (f := fun y => y == 91) (.tmp 40) rfl rfl rfl ?_) | (refine wl_store76 (k := 0) (f := fun y => y == 91) (k' := 0) (g := fun _ => false) (.tmp 10) (.tmp 41) rfl rfl rfl rfl KZ.out ?_; have KT := Hid.mk' (KZ.out.put76 0 (fun y => y == 91)); have HB : Hid (Below w.heap.size w (put76 (wA.alloc (.cells (tv 0 fun _ => false) 106)) wA.heap.size 0 (fun y => y == 91))) := below_setCells hsz (tvl 0 fun y => y == 91) 0 (bAlloc HBA.out _); have HO : Hid ((put76 (wA.alloc (.cells (tv 0 fun _ => false) 106)) wA.heap.size 0 (fun y => y == 91)).ownsRow w.heap.size 106 257 (.slice av rl.length cv) rl.length (tvs rl)) := own_setCells HTT.out _ 0 (HOA.out.alloc _); clear KZ HBA HOA; generalize put76 (wA.alloc (.cells (tv 0 fun _ => false) 106)) wA.heap.size 0 (fun y => y == 91) = wB at *) | (go_at_call 61; refine (C32.out _ (HT.out.keep HB.out)).mono ?_; rintro e wC ⟨hbC, f, he, hf⟩; subst he; have hf2 : f = SS := (by first | exact hf | exact hf hE | exact hf trivial); clear hf; subst hf2; have KTC := Hid.mk' (KT.out.keep hbC); have HBC := Hid.mk' (bT HB.out hbC); have HOC := Hid.mk' (own_keep HO.out hbC); have hTC : wA.heap.size < wC.heap.size := Nat.lt_of_lt_of_le KT.out.lt hbC.size; have KZ4 := Hid.mk' (Blk.new wC 104 (sv fun _ => false)); clear KT HB HO hbC) | (refine wl_store74 (f := f) (g := fun _ => false) (.tmp 12) (.tmp 85) rfl rfl rfl rfl KZ4.out ?_; have KS := Hid.mk' (KZ4.out.put74 f); have KT : Hid (Blk (put74 (wC.alloc (.cells (sv fun _ => false) 104)) wC.heap.size f) wA.heap.size 106 (tv 0 fun y => y == 91)) := blk_setCells_off (by omega) (svl f) 0 (KTC.out.keep (bAlloc (Below.refl _ _) _)); have HB : Hid (Below w.heap.size w (put74 (wC.alloc (.cells (sv fun _ => false) 104)) wC.heap.size f)) := below_setCells (by omega) (svl f) 0 (bAlloc HBC.out _); have HO : Hid ((put74 (wC.alloc (.cells (sv fun _ => false) 104)) wC.heap.size f).ownsRow w.heap.size 106 257 (.slice av rl.length cv) rl.length (tvs rl)) := own_setCells (own_t HOC.out (Nat.le_refl _)) _ 0 (HOC.out.alloc _); clear KTC HBC HOC KZ4; generalize put74 (wC.alloc (.cells (sv fun _ => false) 104)) wC.heap.size f = wD at *))
                  refine bodyPost_ret (results_tmp3 rfl _ _ _) rfl ?_
                  exact ⟨HB.out, .inr (.inl ⟨by omega, by rw [HR.out, ← HA2.out]; exact hF, by rw [HR.out, ← HA2.out]; rfl⟩)⟩
            · have k4' : ((x : Int) == 91) = false := by simp; omega
              by_cases k5 : x = 92
              · subst k5
                clear k1' k2 k2d k3' k4'
                by_cases he : i + 1 = n
                · have HRD : Hid (rd1 p i l = ((i : Int), i, l)) := by unfold Hid rd1; rw [HX.out, hn]; simp [he]
                  have HA2 : Hid (((i : Int), []) = R) := by have := hA; rw [HRD.out] at this; dsimp only at this; rw [if_neg (by omega)] at this; exact this
                  have he' : ((i : Int) + 1 == (n : Int)) = true := by simp; omega
                  clear hA HRD he
                  go_wp2_with fail
                  refine (C1.out _).mono ?_
                  rintro e wA ⟨rfl, hbA⟩
                  have HBA := Hid.mk' (bT HB.out hbA)
                  have HOA := Hid.mk' (own_keep HO.out hbA)
                  have HTT := Hid.mk' (own_t HOA.out (Nat.le_refl _))
                  have KZ := Hid.mk' (Blk.new wA 106 (tv 0 fun _ => false))
                  have hsz : w.heap.size ≤ wA.heap.size := HBA.out.size
                  clear HB HO hbA C1 dx
                  go_wp2_with (first | (refine wl_build76 (f := fun y => y == 92) (.tmp 40) rfl rfl rfl ?_) | (refine wl_store76 (k := 0) (f := fun y => y == 92) (k' := 0) (g := fun _ => false) (.tmp 10) (.tmp 41) rfl rfl rfl rfl KZ.out ?_; have KT := Hid.mk' (KZ.out.put76 0 (fun y => y == 92)); have HB : Hid (Below w.heap.size w (put76 (wA.alloc (.cells (tv 0 fun _ => false) 106)) wA.heap.size 0 (fun y => y == 92))) := below_setCells hsz (tvl 0 fun y => y == 92) 0 (bAlloc HBA.out _); have HO : Hid ((put76 (wA.alloc (.cells (tv 0 fun _ => false) 106)) wA.heap.size 0 (fun y => y == 92)).ownsRow w.heap.size 106 257 (.slice av rl.length cv) rl.length (tvs rl)) := own_setCells HTT.out _ 0 (HOA.out.alloc _); clear KZ HBA HOA; generalize put76 (wA.alloc (.cells (tv 0 fun _ => false) 106)) wA.heap.size 0 (fun y => y == 92) = wB at *))
                  refine bodyPost_ret (results_tmp3 rfl _ _ _) rfl ?_
                  exact ⟨HB.out, .inr (.inl ⟨by omega, by rw [HR.out, ← HA2.out]; show (i : Int) ≠ -1; omega, by rw [HR.out, ← HA2.out]; rfl⟩)⟩
                · have he' : ((i : Int) + 1 == (n : Int)) = false := by simp; omega
                  have hi9 : (i : Int) + 1 < (n : Int) := by omega
                  have hi8 : ((i : Int) + 1).toNat = i + 1 := by omega
                  have hlt2 := bn_lt p (i + 1)
                  have HRD0 : rd1 p i l = escR p i l := by unfold rd1; rw [HX.out]; simp [escR]
                  unfold escR at HRD0
                  rw [hn, if_neg he] at HRD0
                  obtain ⟨y, HY⟩ : ∃ y, Hid (bn p (i + 1) = y) := ⟨_, rfl⟩
                  rw [HY.out] at hlt2 HRD0
                  have HC1 : Hid (∀ W, Below w.heap.size w W → W.cell? ⟨g, o + (i + 1), none⟩ = some (.int .u8 (y : Int))) := fun W hW => by have := keepC hW (HCW.out (i + 1) (by omega)); rw [HY.out] at this; exact this
                  have C2 := Hid.mk' (fun W => rone_any y W hlt2)
                  have dy0 := HC1.out _ HB.out
                  by_cases q1 : y = 60
                  · subst q1
                    rw [if_pos rfl] at HRD0
                    have HRD := Hid.mk' HRD0
                    clear HRD0
                    have HA2 : Hid (rdA p m (i + 2) (l ++ [fre 4]) = R) := by have := hA; rw [HRD.out] at this; dsimp only at this; rw [if_pos rfl] at this; exact this
                    clear hA HRD
                    go_wp2_with fail
                    refine (C1.out _).mono ?_
                    rintro e wA ⟨rfl, hbA⟩
                    have HBA := Hid.mk' (bT HB.out hbA)
                    have HOA := Hid.mk' (own_keep HO.out hbA)
                    have HTT := Hid.mk' (own_t HOA.out (Nat.le_refl _))
                    have KZ := Hid.mk' (Blk.new wA 106 (tv 0 fun _ => false))
                    have hsz : w.heap.size ≤ wA.heap.size := HBA.out.size
                    clear HB HO hbA C1 dx
                    go_wp2_with (first | (refine wl_build76 (f := fun y => y == 92) (.tmp 40) rfl rfl rfl ?_) | (refine wl_store76 (k := 0) (f := fun y => y == 92) (k' := 0) (g := fun _ => false) (.tmp 10) (.tmp 41) rfl rfl rfl rfl KZ.out ?_; have KT := Hid.mk' (KZ.out.put76 0 (fun y => y == 92)); have HB : Hid (Below w.heap.size w (put76 (wA.alloc (.cells (tv 0 fun _ => false) 106)) wA.heap.size 0 (fun y => y == 92))) := below_setCells hsz (tvl 0 fun y => y == 92) 0 (bAlloc HBA.out _); have HO : Hid ((put76 (wA.alloc (.cells (tv 0 fun _ => false) 106)) wA.heap.size 0 (fun y => y == 92)).ownsRow w.heap.size 106 257 (.slice av rl.length cv) rl.length (tvs rl)) := own_setCells HTT.out _ 0 (HOA.out.alloc _); clear KZ HBA HOA; generalize put76 (wA.alloc (.cells (tv 0 fun _ => false) 106)) wA.heap.size 0 (fun y => y == 92) = wB at *; have dyB := HC1.out wB HB.out) | (go_at_call 59; refine (C2.out _).mono ?_; rintro e wC ⟨rfl, hbC⟩; have KTC := Hid.mk' (KT.out.keep hbC); have HBC := Hid.mk' (bT HB.out hbC); have HOC := Hid.mk' (own_keep HO.out hbC); clear KT HB HO hbC) | (refine wl_stores76 (f := fun z => z == 60) (k := 0) (g := fun y => y == 92) (.tmp 109) (.tmp 108) rfl rfl rfl rfl KTC.out ?_; have KT := Hid.mk' (KTC.out.puts76 fun z => z == 60); have HB : Hid (Below w.heap.size w (puts76 wC wA.heap.size fun z => z == 60)) := below_setCells hsz (svl fun z => z == 60) 1 HBC.out; have HO : Hid ((puts76 wC wA.heap.size fun z => z == 60).ownsRow w.heap.size 106 257 (.slice av rl.length cv) rl.length (tvs rl)) := own_setCells HTT.out _ 1 HOC.out; clear KTC HBC HOC; generalize puts76 wC wA.heap.size (fun z => z == 60) = wD at *; have dy := HC1.out wD HB.out; have kc := KT.out.k76; have kz := KT.out.frozen 0; have KT3 := Hid.mk' (KT.out.kind76 4); have HB3 : Hid (Below w.heap.size w (wD.setCell ⟨wA.heap.size, 0, none⟩ (.int .i64 4))) := HB.out.setCell hsz _; have HO3 := Hid.mk' (own_setCell (j := 0) (u := .int .i64 4) HO.out HTT.out); have dy2 := HC1.out _ HB3.out; clear KT HB HO; have KT := KT3; have HB := HB3; have HO := HO3; clear KT3 HB3 HO3) | (refine wl_load76 (k := 4) (f := fun z => z == 60) (.tmp 10) rfl rfl rfl KT.out ?_) | (refine wl_bs54 (k := 4) (f := fun z => z == 60) (.tmp 127) rfl rfl rfl ?_) | (at_builtin; refine append_srv rfl (.tmp 126) (.tmp 128) 71 rfl w.heap.size 106 i0 (.agg (tv 0 fun _ => false)) 257 264 Try.underlying71 hi hz0 hz1 hz2 (by simp [Value.cells, tv, tvl_len]) (by decide) (.slice av rl.length cv) rl.length (tvs rl) rfl (HO.out.alloc _) (.slice (some ⟨(wD.setCell ⟨wA.heap.size, 0, none⟩ (.int .i64 4)).heap.size, 0, none⟩) 1 1) 1 (tvl (4) (fun z => z == 60)) rfl (.inr ⟨⟨(wD.setCell ⟨wA.heap.size, 0, none⟩ (.int .i64 4)).heap.size, 0, none⟩, 1, rfl, fun k u hk => lit_cells (wD.setCell ⟨wA.heap.size, 0, none⟩ (.int .i64 4)) _ 106 k u hk⟩) (by rw [tvl_len]) (tvl_one _ _) (by unfold maxLen; omega) (by omega) (bAlloc HB.out _).size ?_))
                    intro v5 w5 hown hgrow _
                    have L5 : Hid (Below w.heap.size w w5) := (bAlloc HB.out _).grown hgrow (bAlloc HB.out _).size (fun k hk => (HO.out.lt k hk).1)
                    have O5 : Hid (w5.ownsRow w.heap.size 106 257 v5 (rl.length + 1) (tvs (rl ++ [(⟨4, fun z => z == 60⟩ : Th)]))) := by unfold Hid; rw [tvs_snoc]; exact hown
                    have KT5 := Hid.mk' (grow_blk (KT.out.keep (bAlloc (Below.refl _ _) (.cells (tv (4) (fun z => z == 60)) 106))) hgrow HTT.out)
                    have k5 := KT5.out.k76
                    clear hown hgrow HO HB KT
                    obtain ⟨av5, cv5, ev5⟩ := own_shape O5.out
                    subst ev5
                    have HQ := Hid.mk' (HRQ.out.snoc (t := fre 4) (rt := (⟨4, fun z => z == 60⟩ : Th)) rfl (fun h => absurd h (by decide)))
                    go_wp2
                    go_roundg m
                    case measure => omega
                    case rel => exact ⟨i + 2, l ++ [fre 4], rl ++ [(⟨4, fun z => z == 60⟩ : Th)], true, false, _, by go_num, rfl, rfl, rfl, by omega, by omega, by simp; omega, by simp; omega, Flg.snoc (by intro h; cases h) rfl, HQ.out, (by show World.ownsRow _ _ _ _ _ (rl ++ [_]).length _; rw [List.length_append]; exact O5.out), L5.out, HA2.out⟩
                  · rw [if_neg q1] at HRD0
                    have q1' : ((y : Int) == 60) = false := by simp; omega
                    by_cases q2 : y = 62
                    · subst q2
                      rw [if_pos rfl] at HRD0
                      have HRD := Hid.mk' HRD0
                      clear HRD0
                      have HA2 : Hid (rdA p m (i + 2) (l ++ [fre 5]) = R) := by have := hA; rw [HRD.out] at this; dsimp only at this; rw [if_pos rfl] at this; exact this
                      clear hA HRD
                      go_wp2_with fail
                      refine (C1.out _).mono ?_
                      rintro e wA ⟨rfl, hbA⟩
                      have HBA := Hid.mk' (bT HB.out hbA)
                      have HOA := Hid.mk' (own_keep HO.out hbA)
                      have HTT := Hid.mk' (own_t HOA.out (Nat.le_refl _))
                      have KZ := Hid.mk' (Blk.new wA 106 (tv 0 fun _ => false))
                      have hsz : w.heap.size ≤ wA.heap.size := HBA.out.size
                      clear HB HO hbA C1 dx
                      go_wp2_with (first | (refine wl_build76 (f := fun y => y == 92) (.tmp 40) rfl rfl rfl ?_) | (refine wl_store76 (k := 0) (f := fun y => y == 92) (k' := 0) (g := fun _ => false) (.tmp 10) (.tmp 41) rfl rfl rfl rfl KZ.out ?_; have KT := Hid.mk' (KZ.out.put76 0 (fun y => y == 92)); have HB : Hid (Below w.heap.size w (put76 (wA.alloc (.cells (tv 0 fun _ => false) 106)) wA.heap.size 0 (fun y => y == 92))) := below_setCells hsz (tvl 0 fun y => y == 92) 0 (bAlloc HBA.out _); have HO : Hid ((put76 (wA.alloc (.cells (tv 0 fun _ => false) 106)) wA.heap.size 0 (fun y => y == 92)).ownsRow w.heap.size 106 257 (.slice av rl.length cv) rl.length (tvs rl)) := own_setCells HTT.out _ 0 (HOA.out.alloc _); clear KZ HBA HOA; generalize put76 (wA.alloc (.cells (tv 0 fun _ => false) 106)) wA.heap.size 0 (fun y => y == 92) = wB at *; have dyB := HC1.out wB HB.out) | (go_at_call 59; refine (C2.out _).mono ?_; rintro e wC ⟨rfl, hbC⟩; have KTC := Hid.mk' (KT.out.keep hbC); have HBC := Hid.mk' (bT HB.out hbC); have HOC := Hid.mk' (own_keep HO.out hbC); clear KT HB HO hbC) | (refine wl_stores76 (f := fun z => z == 62) (k := 0) (g := fun y => y == 92) (.tmp 109) (.tmp 108) rfl rfl rfl rfl KTC.out ?_; have KT := Hid.mk' (KTC.out.puts76 fun z => z == 62); have HB : Hid (Below w.heap.size w (puts76 wC wA.heap.size fun z => z == 62)) := below_setCells hsz (svl fun z => z == 62) 1 HBC.out; have HO : Hid ((puts76 wC wA.heap.size fun z => z == 62).ownsRow w.heap.size 106 257 (.slice av rl.length cv) rl.length (tvs rl)) := own_setCells HTT.out _ 1 HOC.out; clear KTC HBC HOC; generalize puts76 wC wA.heap.size (fun z => z == 62) = wD at *; have dy := HC1.out wD HB.out; have kc := KT.out.k76; have kz := KT.out.frozen 0; have KT3 := Hid.mk' (KT.out.kind76 5); have HB3 : Hid (Below w.heap.size w (wD.setCell ⟨wA.heap.size, 0, none⟩ (.int .i64 5))) := HB.out.setCell hsz _; have HO3 := Hid.mk' (own_setCell (j := 0) (u := .int .i64 5) HO.out HTT.out); have dy2 := HC1.out _ HB3.out; clear KT HB HO; have KT := KT3; have HB := HB3; have HO := HO3; clear KT3 HB3 HO3) | (refine wl_load76 (k := 5) (f := fun z => z == 62) (.tmp 10) rfl rfl rfl KT.out ?_) | (refine wl_bs54 (k := 5) (f := fun z => z == 62) (.tmp 127) rfl rfl rfl ?_) | (at_builtin; refine append_srv rfl (.tmp 126) (.tmp 128) 71 rfl w.heap.size 106 i0 (.agg (tv 0 fun _ => false)) 257 264 Try.underlying71 hi hz0 hz1 hz2 (by simp [Value.cells, tv, tvl_len]) (by decide) (.slice av rl.length cv) rl.length (tvs rl) rfl (HO.out.alloc _) (.slice (some ⟨(wD.setCell ⟨wA.heap.size, 0, none⟩ (.int .i64 5)).heap.size, 0, none⟩) 1 1) 1 (tvl (5) (fun z => z == 62)) rfl (.inr ⟨⟨(wD.setCell ⟨wA.heap.size, 0, none⟩ (.int .i64 5)).heap.size, 0, none⟩, 1, rfl, fun k u hk => lit_cells (wD.setCell ⟨wA.heap.size, 0, none⟩ (.int .i64 5)) _ 106 k u hk⟩) (by rw [tvl_len]) (tvl_one _ _) (by unfold maxLen; omega) (by omega) (bAlloc HB.out _).size ?_))
                      intro v5 w5 hown hgrow _
                      have L5 : Hid (Below w.heap.size w w5) := (bAlloc HB.out _).grown hgrow (bAlloc HB.out _).size (fun k hk => (HO.out.lt k hk).1)
                      have O5 : Hid (w5.ownsRow w.heap.size 106 257 v5 (rl.length + 1) (tvs (rl ++ [(⟨5, fun z => z == 62⟩ : Th)]))) := by unfold Hid; rw [tvs_snoc]; exact hown
                      have KT5 := Hid.mk' (grow_blk (KT.out.keep (bAlloc (Below.refl _ _) (.cells (tv (5) (fun z => z == 62)) 106))) hgrow HTT.out)
                      have k5 := KT5.out.k76
                      clear hown hgrow HO HB KT
                      obtain ⟨av5, cv5, ev5⟩ := own_shape O5.out
                      subst ev5
                      have HQ := Hid.mk' (HRQ.out.snoc (t := fre 5) (rt := (⟨5, fun z => z == 62⟩ : Th)) rfl (fun h => absurd h (by decide)))
                      go_wp2
                      go_roundg m
                      case measure => omega
                      case rel => exact ⟨i + 2, l ++ [fre 5], rl ++ [(⟨5, fun z => z == 62⟩ : Th)], true, false, _, by go_num, rfl, rfl, rfl, by omega, by omega, by simp; omega, by simp; omega, Flg.snoc (by intro h; cases h) rfl, HQ.out, (by show World.ownsRow _ _ _ _ _ (rl ++ [_]).length _; rw [List.length_append]; exact O5.out), L5.out, HA2.out⟩
                    · rw [if_neg q2] at HRD0
                      have q2' : ((y : Int) == 62) = false := by simp; omega
                      have HRD := Hid.mk' HRD0
                      clear HRD0
                      have HA2 : Hid (rdA p m (i + 2) (l ++ [one fun x => x == y]) = R) := by have := hA; rw [HRD.out] at this; dsimp only at this; rw [if_pos rfl] at this; exact this
                      clear hA HRD
                      go_wp2_with fail
                      refine (C1.out _).mono ?_
                      rintro e wA ⟨rfl, hbA⟩
                      have HBA := Hid.mk' (bT HB.out hbA)
                      have HOA := Hid.mk' (own_keep HO.out hbA)
                      have HTT := Hid.mk' (own_t HOA.out (Nat.le_refl _))
                      have KZ := Hid.mk' (Blk.new wA 106 (tv 0 fun _ => false))
                      have hsz : w.heap.size ≤ wA.heap.size := HBA.out.size
                      clear HB HO hbA C1 dx
                      go_wp2_with (first | (refine wl_build76 (f := fun y => y == 92) (.tmp 40) rfl rfl rfl ?_) | (refine wl_store76 (k := 0) (f := fun y => y == 92) (k' := 0) (g := fun _ => false) (.tmp 10) (.tmp 41) rfl rfl rfl rfl KZ.out ?_; have KT := Hid.mk' (KZ.out.put76 0 (fun y => y == 92)); have HB : Hid (Below w.heap.size w (put76 (wA.alloc (.cells (tv 0 fun _ => false) 106)) wA.heap.size 0 (fun y => y == 92))) := below_setCells hsz (tvl 0 fun y => y == 92) 0 (bAlloc HBA.out _); have HO : Hid ((put76 (wA.alloc (.cells (tv 0 fun _ => false) 106)) wA.heap.size 0 (fun y => y == 92)).ownsRow w.heap.size 106 257 (.slice av rl.length cv) rl.length (tvs rl)) := own_setCells HTT.out _ 0 (HOA.out.alloc _); clear KZ HBA HOA; generalize put76 (wA.alloc (.cells (tv 0 fun _ => false) 106)) wA.heap.size 0 (fun y => y == 92) = wB at *; have dyB := HC1.out wB HB.out) | (go_at_call 59; refine (C2.out _).mono ?_; rintro e wC ⟨rfl, hbC⟩; have KTC := Hid.mk' (KT.out.keep hbC); have HBC := Hid.mk' (bT HB.out hbC); have HOC := Hid.mk' (own_keep HO.out hbC); clear KT HB HO hbC) | (refine wl_stores76 (f := fun z => z == y) (k := 0) (g := fun y => y == 92) (.tmp 109) (.tmp 108) rfl rfl rfl rfl KTC.out ?_; have KT := Hid.mk' (KTC.out.puts76 fun z => z == y); have HB : Hid (Below w.heap.size w (puts76 wC wA.heap.size fun z => z == y)) := below_setCells hsz (svl fun z => z == y) 1 HBC.out; have HO : Hid ((puts76 wC wA.heap.size fun z => z == y).ownsRow w.heap.size 106 257 (.slice av rl.length cv) rl.length (tvs rl)) := own_setCells HTT.out _ 1 HOC.out; clear KTC HBC HOC; generalize puts76 wC wA.heap.size (fun z => z == y) = wD at *; have dy := HC1.out wD HB.out) | (refine wl_load76 (k := 0) (f := fun z => z == y) (.tmp 10) rfl rfl rfl KT.out ?_) | (refine wl_bs54 (k := 0) (f := fun z => z == y) (.tmp 127) rfl rfl rfl ?_) | (at_builtin; refine append_srv rfl (.tmp 126) (.tmp 128) 71 rfl w.heap.size 106 i0 (.agg (tv 0 fun _ => false)) 257 264 Try.underlying71 hi hz0 hz1 hz2 (by simp [Value.cells, tv, tvl_len]) (by decide) (.slice av rl.length cv) rl.length (tvs rl) rfl (HO.out.alloc _) (.slice (some ⟨wD.heap.size, 0, none⟩) 1 1) 1 (tvl (0) (fun z => z == y)) rfl (.inr ⟨⟨wD.heap.size, 0, none⟩, 1, rfl, fun k u hk => lit_cells wD _ 106 k u hk⟩) (by rw [tvl_len]) (tvl_one _ _) (by unfold maxLen; omega) (by omega) (bAlloc HB.out _).size ?_))
                      intro v5 w5 hown hgrow _
                      have L5 : Hid (Below w.heap.size w w5) := (bAlloc HB.out _).grown hgrow (bAlloc HB.out _).size (fun k hk => (HO.out.lt k hk).1)
                      have O5 : Hid (w5.ownsRow w.heap.size 106 257 v5 (rl.length + 1) (tvs (rl ++ [(⟨0, fun z => z == y⟩ : Th)]))) := by unfold Hid; rw [tvs_snoc]; exact hown
                      have KT5 := Hid.mk' (grow_blk (KT.out.keep (bAlloc (Below.refl _ _) (.cells (tv (0) (fun z => z == y)) 106))) hgrow HTT.out)
                      have k5 := KT5.out.k76
                      clear hown hgrow HO HB KT
                      obtain ⟨av5, cv5, ev5⟩ := own_shape O5.out
                      subst ev5
                      have HQ := Hid.mk' (HRQ.out.snoc (t := one fun z => z == y) (rt := (⟨0, fun z => z == y⟩ : Th)) rfl (fun _ => rfl))
                      go_wp2
                      go_roundg m
                      case measure => omega
                      case rel => exact ⟨i + 2, l ++ [one fun z => z == y], rl ++ [(⟨0, fun z => z == y⟩ : Th)], false, false, _, by go_num, rfl, rfl, rfl, by omega, by omega, by simp; omega, by simp; omega, Flg.snoc (by intro h; cases h) rfl, HQ.out, (by show World.ownsRow _ _ _ _ _ (rl ++ [_]).length _; rw [List.length_append]; exact O5.out), L5.out, HA2.out⟩
              · have k5' : ((x : Int) == 92) = false := by simp; omega
                have HRD : Hid (rd1 p i l = (-1, i + 1, l ++ [one fun y => y == x])) := by
                  unfold Hid rd1; rw [HX.out, hn]
                  have h0 : ¬ (x = 94 ∧ i = 0) := H0.out
                  have k2' : ¬ (x = 36 ∧ i + 1 = n) := k2
                  rw [if_neg h0, if_neg k2', if_neg k1, if_neg k5, if_neg k4, if_neg k3]
                clear k2
                rcases k2d with k2a | ⟨k2a, k2b⟩
                · have HA2 : Hid (rdA p m (i + 1) (l ++ [one fun y => y == x]) = R) := by have := hA; rw [HRD.out] at this; dsimp only at this; rw [if_pos rfl] at this; exact this
                  clear hA HRD
                  go_wp2_with fail
                  refine (C1.out _).mono ?_
                  rintro e wA ⟨rfl, hbA⟩
                  have HBA := Hid.mk' (bT HB.out hbA)
                  have HOA := Hid.mk' (own_keep HO.out hbA)
                  have HTT := Hid.mk' (own_t HOA.out (Nat.le_refl _))
                  have KZ := Hid.mk' (Blk.new wA 106 (tv 0 fun _ => false))
                  have hsz : w.heap.size ≤ wA.heap.size := HBA.out.size
                  clear HB HO hbA C1 dx
                  go_wp2_with (first | (refine wl_build76 (f := fun y => y == x) (.tmp 40) rfl rfl rfl ?_) | (refine wl_store76 (k := 0) (f := fun y => y == x) (k' := 0) (g := fun _ => false) (.tmp 10) (.tmp 41) rfl rfl rfl rfl KZ.out ?_; have KT := Hid.mk' (KZ.out.put76 0 (fun y => y == x)); have HB : Hid (Below w.heap.size w (put76 (wA.alloc (.cells (tv 0 fun _ => false) 106)) wA.heap.size 0 (fun y => y == x))) := below_setCells hsz (tvl 0 fun y => y == x) 0 (bAlloc HBA.out _); have HO : Hid ((put76 (wA.alloc (.cells (tv 0 fun _ => false) 106)) wA.heap.size 0 (fun y => y == x)).ownsRow w.heap.size 106 257 (.slice av rl.length cv) rl.length (tvs rl)) := own_setCells HTT.out _ 0 (HOA.out.alloc _); clear KZ HBA HOA; generalize put76 (wA.alloc (.cells (tv 0 fun _ => false) 106)) wA.heap.size 0 (fun y => y == x) = wB at *) | (refine wl_load76 (k := 0) (f := fun y => y == x) (.tmp 10) rfl rfl rfl KT.out ?_) | (refine wl_bs54 (k := 0) (f := fun y => y == x) (.tmp 127) rfl rfl rfl ?_) | (at_builtin; refine append_srv rfl (.tmp 126) (.tmp 128) 71 rfl w.heap.size 106 i0 (.agg (tv 0 fun _ => false)) 257 264 Try.underlying71 hi hz0 hz1 hz2 (by simp [Value.cells, tv, tvl_len]) (by decide) (.slice av rl.length cv) rl.length (tvs rl) rfl (HO.out.alloc _) (.slice (some ⟨wB.heap.size, 0, none⟩) 1 1) 1 (tvl (0) (fun y => y == x)) rfl (.inr ⟨⟨wB.heap.size, 0, none⟩, 1, rfl, fun k u hk => lit_cells wB _ 106 k u hk⟩) (by rw [tvl_len]) (tvl_one _ _) (by unfold maxLen; omega) (by omega) (bAlloc HB.out _).size ?_))
                  intro v5 w5 hown hgrow _
                  have L5 : Hid (Below w.heap.size w w5) := (bAlloc HB.out _).grown hgrow (bAlloc HB.out _).size (fun k hk => (HO.out.lt k hk).1)
                  have O5 : Hid (w5.ownsRow w.heap.size 106 257 v5 (rl.length + 1) (tvs (rl ++ [(⟨0, fun y => y == x⟩ : Th)]))) := by unfold Hid; rw [tvs_snoc]; exact hown
                  have KT5 := Hid.mk' (grow_blk (KT.out.keep (bAlloc (Below.refl _ _) (.cells (tv (0) (fun y => y == x)) 106))) hgrow HTT.out)
                  have k5 := KT5.out.k76
                  clear hown hgrow HO HB KT
                  obtain ⟨av5, cv5, ev5⟩ := own_shape O5.out
                  subst ev5
                  have HQ := Hid.mk' (HRQ.out.snoc (t := one fun y => y == x) (rt := (⟨0, fun y => y == x⟩ : Th)) rfl (fun _ => rfl))
                  go_wp2
                  go_roundg m
                  case measure => omega
                  case rel => exact ⟨i + 1, l ++ [one fun y => y == x], rl ++ [(⟨0, fun y => y == x⟩ : Th)], false, false, _, by go_num, rfl, rfl, rfl, by omega, by omega, by simp; omega, by simp; omega, Flg.snoc (by intro h; cases h) rfl, HQ.out, (by show World.ownsRow _ _ _ _ _ (rl ++ [_]).length _; rw [List.length_append]; exact O5.out), L5.out, HA2.out⟩
                · have HA2 : Hid (rdA p m (i + 1) (l ++ [one fun y => y == x]) = R) := by have := hA; rw [HRD.out] at this; dsimp only at this; rw [if_pos rfl] at this; exact this
                  clear hA HRD
                  go_wp2_with fail
                  refine (C1.out _).mono ?_
                  rintro e wA ⟨rfl, hbA⟩
                  have HBA := Hid.mk' (bT HB.out hbA)
                  have HOA := Hid.mk' (own_keep HO.out hbA)
                  have HTT := Hid.mk' (own_t HOA.out (Nat.le_refl _))
                  have KZ := Hid.mk' (Blk.new wA 106 (tv 0 fun _ => false))
                  have hsz : w.heap.size ≤ wA.heap.size := HBA.out.size
                  clear HB HO hbA C1 dx
                  go_wp2_with (first | (refine wl_build76 (f := fun y => y == x) (.tmp 40) rfl rfl rfl ?_) | (refine wl_store76 (k := 0) (f := fun y => y == x) (k' := 0) (g := fun _ => false) (.tmp 10) (.tmp 41) rfl rfl rfl rfl KZ.out ?_; have KT := Hid.mk' (KZ.out.put76 0 (fun y => y == x)); have HB : Hid (Below w.heap.size w (put76 (wA.alloc (.cells (tv 0 fun _ => false) 106)) wA.heap.size 0 (fun y => y == x))) := below_setCells hsz (tvl 0 fun y => y == x) 0 (bAlloc HBA.out _); have HO : Hid ((put76 (wA.alloc (.cells (tv 0 fun _ => false) 106)) wA.heap.size 0 (fun y => y == x)).ownsRow w.heap.size 106 257 (.slice av rl.length cv) rl.length (tvs rl)) := own_setCells HTT.out _ 0 (HOA.out.alloc _); clear KZ HBA HOA; generalize put76 (wA.alloc (.cells (tv 0 fun _ => false) 106)) wA.heap.size 0 (fun y => y == x) = wB at *) | (refine wl_load76 (k := 0) (f := fun y => y == x) (.tmp 10) rfl rfl rfl KT.out ?_) | (refine wl_bs54 (k := 0) (f := fun y => y == x) (.tmp 127) rfl rfl rfl ?_) | (at_builtin; refine append_srv rfl (.tmp 126) (.tmp 128) 71 rfl w.heap.size 106 i0 (.agg (tv 0 fun _ => false)) 257 264 Try.underlying71 hi hz0 hz1 hz2 (by simp [Value.cells, tv, tvl_len]) (by decide) (.slice av rl.length cv) rl.length (tvs rl) rfl (HO.out.alloc _) (.slice (some ⟨wB.heap.size, 0, none⟩) 1 1) 1 (tvl (0) (fun y => y == x)) rfl (.inr ⟨⟨wB.heap.size, 0, none⟩, 1, rfl, fun k u hk => lit_cells wB _ 106 k u hk⟩) (by rw [tvl_len]) (tvl_one _ _) (by unfold maxLen; omega) (by omega) (bAlloc HB.out _).size ?_))
                  intro v5 w5 hown hgrow _
                  have L5 : Hid (Below w.heap.size w w5) := (bAlloc HB.out _).grown hgrow (bAlloc HB.out _).size (fun k hk => (HO.out.lt k hk).1)
                  have O5 : Hid (w5.ownsRow w.heap.size 106 257 v5 (rl.length + 1) (tvs (rl ++ [(⟨0, fun y => y == x⟩ : Th)]))) := by unfold Hid; rw [tvs_snoc]; exact hown
                  have KT5 := Hid.mk' (grow_blk (KT.out.keep (bAlloc (Below.refl _ _) (.cells (tv (0) (fun y => y == x)) 106))) hgrow HTT.out)
                  have k5 := KT5.out.k76
                  clear hown hgrow HO HB KT
                  obtain ⟨av5, cv5, ev5⟩ := own_shape O5.out
                  subst ev5
                  have HQ := Hid.mk' (HRQ.out.snoc (t := one fun y => y == x) (rt := (⟨0, fun y => y == x⟩ : Th)) rfl (fun _ => rfl))
                  go_wp2
                  go_roundg m
                  case measure => omega
                  case rel => exact ⟨i + 1, l ++ [one fun y => y == x], rl ++ [(⟨0, fun y => y == x⟩ : Th)], false, false, _, by go_num, rfl, rfl, rfl, by omega, by omega, by simp; omega, by simp; omega, Flg.snoc (by intro h; cases h) rfl, HQ.out, (by show World.ownsRow _ _ _ _ _ (rl ++ [_]).length _; rw [List.length_append]; exact O5.out), L5.out, HA2.out⟩
    · have hin' : ¬ ((i : Int) < (n : Int)) := by omega
      have hA := HA.out
      rw [rdA_stop (by omega)] at hA
      have HA2 := Hid.mk' hA
      clear hA HA
      go_wp2
      refine bodyPost_ret (results_tmp3 rfl _ _ _) rfl ?_
      exact ⟨HB.out, .inr (.inr ⟨by omega, by rw [HR.out, ← HA2.out], by rw [HR.out, ← HA2.out]; show l.length ≤ _; omega, _, rl, rfl, by rw [HR.out, ← HA2.out]; exact HRQ.out, HO.out⟩)⟩
end Go.Proofs.Ytaakgoojcogbcaa
