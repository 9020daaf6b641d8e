/- Ptb, Ptl -/
import Derived.Test.YtppefcnopkmhbaaGreatDoorPt20
import Derived.Test.YtppefcnopkmhbaaGreatDoorPt19
namespace Go.Proofs.YtppefcnopkmhbaaGreatDoor
open Go.RowKit

set_option maxRecDepth 8000
theorem Wb.offt {W W' : World} {lo hi B e : Nat} {v : Value} {l : List UInt8} {cs : Array Value} (h : Wb W lo hi v l) (hK : Blk W B e cs) (he : e ≠ 5) (hg : W.grownBy W' (some B)) : Wb W' lo hi v l :=
  h.off hg fun g hg' e' => by
    injection e' with e'
    subst e'
    rcases h with ⟨rfl, _⟩ | ⟨g1, cap, cur, rfl, _, _, h3, _⟩
    · cases hg'
    · simp [Value.ownBlock] at hg'
      subst hg'
      unfold Blk at h3 hK
      rw [h3] at hK
      simp at hK
      exact he hK.2.symm
theorem own_offt {W W' : World} {base e e' s n B : Nat} {v : Value} {xs : List Value} {cs : Array Value} (h : W.ownsRow base e s v n xs) (hK : Blk W B e' cs) (he : e' ≠ e) (hg : W.grownBy W' (some B)) : W'.ownsRow base e s v n xs :=
  own_same h fun g h1 h2 => hg.block g h2 fun e9 => by
    injection e9 with e9
    subst e9
    rcases h.2 with ⟨rfl, _⟩ | ⟨g1, cap, cur, rfl, _, h3, _⟩
    · simp [Value.ownBlock] at h1
    · simp [Value.ownBlock] at h1
      subst h1
      unfold Blk at hK
      rw [h3] at hK
      simp at hK
      exact he hK.2.symm
theorem Eds.offt {W W' : World} {lo hi B : Nat} {v : Value} {F : List Er} {cs : Array Value} (h : Eds W lo hi v F) (hK : Blk W B 35 cs) (hg : W.grownBy W' (some B)) : Eds W' lo hi v F :=
  ⟨own_offt h.row hK (by decide) hg, h.up, fun k x hk => (h.tx k x hk).offt hK (by decide) hg, h.far, h.big⟩
theorem Efm.offt {W W' : World} {lo hi B : Nat} {v tv : Value} {F : List Er} {T : List UInt8} {cs : Array Value} (h : Efm W lo hi v F tv T) (hK : Blk W B 35 cs) (hg : W.grownBy W' (some B)) : Efm W' lo hi v F tv T := ⟨h.eds.offt hK hg, h.tx.offt hK (by decide) hg, h.far⟩
/-- a call that answers an effect, some of its texts made since w0 -/
def EaP (x : Ef) (w0 : World) (e : Ending) (w' : World) : Prop := ∃ v F tv, e = .returned (efV v tv x) ∧ F.map Er.d = x.es ∧ Efm w' w0.heap.size w'.heap.size v F tv x.txt ∧ Below w0.heap.size w0 w'
theorem EaP.out {x : Ef} {w0 w5 w6 : World} {v tv : Value} {F : List Er} {B : Nat} {cs : Array Value} (hF : F.map Er.d = x.es) (hM : Efm w5 w0.heap.size w5.heap.size v F tv x.txt) (hb : Below w0.heap.size w0 w5) (hK : Blk w5 B 35 cs) (hB : w0.heap.size ≤ B) (hg : w5.grownBy w6 (some B)) :
    EaP x w0 (.returned (efV v tv x)) w6 :=
  ⟨v, F, tv, rfl, hF, (hM.offt hK hg).wide (Nat.le_refl _) hg.size, hb.grown hg hb.size (fun g hg' => by injection hg' with hg'; omega)⟩
/-- what putBytes answers -/
def pbX (l : List UInt8) (k : Nat) (X : List UInt8) (ah : Bool) : Ef :=
  if X.length = 0 then ⟨[], (k : Int), false, false, [], 0, false⟩
  else
    let p := if ah = true then k else bsd l k
    ⟨sw l p p X, if hasL X = true then (p : Int) else ((p + (X.length - 1) : Nat) : Int), false, false, [], 0, false⟩
theorem bsd_le {l : List UInt8} {k : Nat} (h : k ≤ l.length) : bsd l k ≤ l.length := by
  have := ow_le h
  unfold bsd
  omega
set_option maxHeartbeats 8000000 in
set_option linter.unusedSimpArgs false in
theorem putBytes_any (w0 : World) (ao : Option Addr) (n c k : Nat) (l : List UInt8) (xp : Option Addr) (xn xc : Nat) (X : List UInt8) (ah : Bool) (w : World) (HT : Hid (Tx w ao n c l)) (hk : k ≤ n) (hbig : n ≤ 1048576) (hB0 : Hid (Below w0.heap.size w0 w)) (HX : Hid (Wb w w0.heap.size w.heap.size (.slice xp xn xc) X)) (hX : X.length ≤ 1048576) :
    Calls Tryz.prog 50 #[.slice ao n c, .int .i64 (k : Int), .slice xp xn xc, .bool ah] w fun e w' => EaP (pbX l k X ah) w0 e w' := by
  have hln := HT.out.len
  have hXl : xn = X.length := by obtain ⟨_, _, e⟩ := HX.out.shape; simp at e; exact e.2.1
  have HXL := Hid.mk' hXl
  rw [← hXl] at hX
  clear hXl
  obtain ⟨x, hx⟩ : ∃ x, pbX l k X ah = x := ⟨_, rfl⟩
  rw [hx]
  have HPX := Hid.mk' hx
  clear hx
  obtain ⟨W1, hW1⟩ : ∃ x, w.alloc (.cells #[.slice none 0 0, .int .i64 0, .bool false, .bool false, .slice none 0 0, .int .i64 0, .bool false] 35) = x := ⟨_, rfl⟩
  obtain ⟨B, hB⟩ : ∃ b, w.heap.size = b := ⟨_, rfl⟩
  have HB := Hid.mk' hB
  have J1 : Hid (Blk W1 B 35 (ef7 (.slice none 0 0) 0 false false (.slice none 0 0) 0 false)) := by unfold Hid; rw [← hW1, ← hB]; exact Blk.new w 35 _
  have hb1 : Below w.heap.size w W1 := by rw [← hW1]; exact bAlloc (Below.refl _ _) _
  have B1 := Hid.mk' (bT hB0.out hb1)
  have HT1 := Hid.mk' (HT.out.keep hb1)
  have HX1 := Hid.mk' ((HX.out.keep hb1).wide (Nat.le_refl _) hb1.size)
  have HB0 := Hid.mk' hB0.out.size
  clear hb1 HT HX hB0
  by_cases h0 : xn = 0
  · have HP2 : Hid ((⟨[], (k : Int), false, false, [], 0, false⟩ : Ef) = x) := by rw [← HPX.out]; unfold pbX; rw [← HXL.out, if_pos h0]; rfl
    subst h0
    go_enter Tryz.func50, Tryz.ntmps50
    go_upto_region 1 with fail
    clear hW1 hB
    go_upto_region 2 with fail
    obtain ⟨j0, j1, j2, j3, j4, j5, j6⟩ := ef_cells J1.out
    obtain ⟨f0, f1, f2, f3, f4, f5, f6⟩ := ef_frozen J1.out
    have hbk := ef_store J1.out (.slice none 0 0) (.int .i64 (k : Int)) (.bool false) (.bool false) (.slice none 0 0) (.int .i64 0) (.bool false)
    have hgr := ef_grown W1 B (.slice none 0 0) (.int .i64 (k : Int)) (.bool false) (.bool false) (.slice none 0 0) (.int .i64 0) (.bool false)
    go_wp2_with fail
    generalize (((((((W1.setCell ⟨B, 0, none⟩ (.slice none 0 0)).setCell ⟨B, 1, none⟩ (.int .i64 (k : Int))).setCell ⟨B, 2, none⟩ (.bool false)).setCell ⟨B, 3, none⟩ (.bool false)).setCell ⟨B, 4, none⟩ (.slice none 0 0)).setCell ⟨B, 5, none⟩ (.int .i64 0)).setCell ⟨B, 6, none⟩ (.bool false)) = w9 at *
    obtain ⟨g0, g1, g2, g3, g4, g5, g6⟩ := ef_cells hbk
    refine bodyPost_ret (v := .agg #[.slice none 0 0, .int .i64 (k : Int), .bool false, .bool false, .slice none 0 0, .int .i64 0, .bool false]) (by simp [results, Tryz.results50, go_sem, g0, g1, g2, g3, g4, g5, g6]) rfl ?_
    rw [← HP2.out]
    exact EaP.out (x := ⟨[], (k : Int), false, false, [], 0, false⟩) (F := []) rfl (Efm.bare (Eds.nil _ _ _)) B1.out J1.out (by have := HB.out; have := HB0.out; omega) hgr
  · have h0' : ¬ xn = 0 := h0
    obtain ⟨m, hm⟩ : ∃ m, xn - 1 = m := ⟨_, rfl⟩
    have hhi : IntKind.i64.wrap ((xn : Int) - 1) = (m : Int) := by rw [IntKind.wrap_i64]; omega
    have hmb : m ≤ 1048576 := by omega
    have HM := Hid.mk' hm
    clear hm
    have CB := Hid.mk' (beside_any ao n c k l W1 hk HT1.out)
    have hbs := bsd_le (l := l) (k := k) (by omega)
    have hTX := HX1.out.tx (by have := HXL.out; omega)
    have CC : Hid (∀ W B2, Below W1.heap.size W1 W → W.cell? ⟨B2, 0, none⟩ = some (.int .u8 10) → Calls Tryz.prog 86 #[.slice xp xn xc, .slice (some ⟨B2, 0, none⟩) 1 1] W fun e w' => e = .returned (.bool (hasL X)) ∧ w' = W) := fun W B2 hW h => contains_any xp xn xc B2 X W (hTX.keep hW) h
    have CS : Hid (∀ (W : World) (p : Nat), p ≤ n → Below W1.heap.size W1 W → Calls Tryz.prog 83 #[.slice ao n c, .int .i64 (p : Int), .int .i64 (p : Int), .slice xp xn xc] W fun e w' => EsP (sw l p p X) w0 e w' ∧ Below W.heap.size W w') := fun W p hp hW => swap_two w0 ao n c p p l xp xn xc X W (HT1.out.keep hW) (Nat.le_refl _) hp (by omega) (bT B1.out hW) ((HX1.out.keep hW).wide (Nat.le_refl _) hW.size) (by have := HXL.out; omega)
    have hc1 : ∀ W : World, (W.alloc (.cells #[.int .u8 10] 5)).cell? ⟨W.heap.size, 0, none⟩ = some (.int .u8 10) := fun W => (Blk.new W 5 #[.int .u8 10]).cell rfl
    clear hTX
    go_enter Tryz.func50, Tryz.ntmps50
    go_upto_region 1 with fail
    clear hW1 hB
    cases ah with
    | true =>
      clear CB
      go_upto_region 6 with fail
      have hw2 : IntKind.i64.wrap ((k : Int) + (m : Int)) = (k : Int) + (m : Int) := by rw [IntKind.wrap_i64]; omega
      cases hL : hasL X with
      | true =>
        rw [hL] at CC
        have HP2 : Hid ((⟨sw l k k X, (k : Int), false, false, [], 0, false⟩ : Ef) = x) := by rw [← HPX.out]; unfold pbX; rw [← HXL.out, if_neg h0]; dsimp only; rw [if_pos rfl, hL, if_pos rfl]; rfl
        go_upto_region 8 with (first | (go_at_call 86; refine (CC.out (W1.alloc (.cells #[.int .u8 10] 5)) _ (bAlloc (Below.refl _ _) _) (hc1 W1)).mono ?_; rintro e w' ⟨rfl, hw⟩; have hq := hw.symm; subst hq; clear hw) | fail)
        go_wp2_with (first | (go_at_call 83; refine (CS.out (W1.alloc (.cells #[.int .u8 10] 5)) k hk (bAlloc (Below.refl _ _) _)).mono ?_; rintro e w5 ⟨⟨v, F, rfl, hF, hE, hb5⟩, hk5⟩; obtain ⟨eo, ec, rfl, -, -⟩ := hE.edz; have J5 := Hid.mk' (J1.out.keep (bT (bAlloc (Below.refl W1.heap.size W1) (.cells #[.int .u8 10] 5)) hk5)); have HF := Hid.mk' hF; have E5 := Hid.mk' hE; have B5 := Hid.mk' hb5; clear hF hE hb5 hk5 CS CC; obtain ⟨j0, j1, j2, j3, j4, j5, j6⟩ := ef_cells J5.out; obtain ⟨f0, f1, f2, f3, f4, f5, f6⟩ := ef_frozen J5.out; have hbk := ef_store J5.out (.slice eo F.length ec) (.int .i64 (k : Int)) (.bool false) (.bool false) (.slice none 0 0) (.int .i64 0) (.bool false); have hgr := ef_grown w5 B (.slice eo F.length ec) (.int .i64 (k : Int)) (.bool false) (.bool false) (.slice none 0 0) (.int .i64 0) (.bool false)) | fail)
        generalize (((((((w5.setCell ⟨B, 0, none⟩ (.slice eo F.length ec)).setCell ⟨B, 1, none⟩ (.int .i64 (k : Int))).setCell ⟨B, 2, none⟩ (.bool false)).setCell ⟨B, 3, none⟩ (.bool false)).setCell ⟨B, 4, none⟩ (.slice none 0 0)).setCell ⟨B, 5, none⟩ (.int .i64 0)).setCell ⟨B, 6, none⟩ (.bool false)) = w9 at *
        obtain ⟨g0, g1, g2, g3, g4, g5, g6⟩ := ef_cells hbk
        refine bodyPost_ret (v := .agg #[.slice eo F.length ec, .int .i64 (k : Int), .bool false, .bool false, .slice none 0 0, .int .i64 0, .bool false]) (by simp [results, Tryz.results50, go_sem, g0, g1, g2, g3, g4, g5, g6]) rfl ?_
        rw [← HP2.out]
        exact EaP.out (x := ⟨sw l k k X, (k : Int), false, false, [], 0, false⟩) HF.out (Efm.bare E5.out) B5.out J5.out (by have := HB.out; have := HB0.out; omega) hgr
      | false =>
        rw [hL] at CC
        have HP2 : Hid ((⟨sw l k k X, ((k : Int) + (m : Int)), false, false, [], 0, false⟩ : Ef) = x) := by rw [← HPX.out]; unfold pbX; rw [← HXL.out, if_neg h0]; dsimp only; rw [if_pos rfl, hL, if_neg (by simp), HM.out, Int.natCast_add]; rfl
        go_upto_region 8 with (first | (go_at_call 86; refine (CC.out (W1.alloc (.cells #[.int .u8 10] 5)) _ (bAlloc (Below.refl _ _) _) (hc1 W1)).mono ?_; rintro e w' ⟨rfl, hw⟩; have hq := hw.symm; subst hq; clear hw) | fail)
        go_wp2_with (first | (go_at_call 83; refine (CS.out (W1.alloc (.cells #[.int .u8 10] 5)) k hk (bAlloc (Below.refl _ _) _)).mono ?_; rintro e w5 ⟨⟨v, F, rfl, hF, hE, hb5⟩, hk5⟩; obtain ⟨eo, ec, rfl, -, -⟩ := hE.edz; have J5 := Hid.mk' (J1.out.keep (bT (bAlloc (Below.refl W1.heap.size W1) (.cells #[.int .u8 10] 5)) hk5)); have HF := Hid.mk' hF; have E5 := Hid.mk' hE; have B5 := Hid.mk' hb5; clear hF hE hb5 hk5 CS CC; obtain ⟨j0, j1, j2, j3, j4, j5, j6⟩ := ef_cells J5.out; obtain ⟨f0, f1, f2, f3, f4, f5, f6⟩ := ef_frozen J5.out; have hbk := ef_store J5.out (.slice eo F.length ec) (.int .i64 ((k : Int) + (m : Int))) (.bool false) (.bool false) (.slice none 0 0) (.int .i64 0) (.bool false); have hgr := ef_grown w5 B (.slice eo F.length ec) (.int .i64 ((k : Int) + (m : Int))) (.bool false) (.bool false) (.slice none 0 0) (.int .i64 0) (.bool false)) | fail)
        generalize (((((((w5.setCell ⟨B, 0, none⟩ (.slice eo F.length ec)).setCell ⟨B, 1, none⟩ (.int .i64 ((k : Int) + (m : Int)))).setCell ⟨B, 2, none⟩ (.bool false)).setCell ⟨B, 3, none⟩ (.bool false)).setCell ⟨B, 4, none⟩ (.slice none 0 0)).setCell ⟨B, 5, none⟩ (.int .i64 0)).setCell ⟨B, 6, none⟩ (.bool false)) = w9 at *
        obtain ⟨g0, g1, g2, g3, g4, g5, g6⟩ := ef_cells hbk
        refine bodyPost_ret (v := .agg #[.slice eo F.length ec, .int .i64 ((k : Int) + (m : Int)), .bool false, .bool false, .slice none 0 0, .int .i64 0, .bool false]) (by simp [results, Tryz.results50, go_sem, g0, g1, g2, g3, g4, g5, g6]) rfl ?_
        rw [← HP2.out]
        exact EaP.out (x := ⟨sw l k k X, ((k : Int) + (m : Int)), false, false, [], 0, false⟩) HF.out (Efm.bare E5.out) B5.out J5.out (by have := HB.out; have := HB0.out; omega) hgr
    | false =>
      rw [hln] at hbs
      obtain ⟨p, hp⟩ : ∃ p, bsd l k = p := ⟨_, rfl⟩
      rw [hp] at hbs CB
      have HBP := Hid.mk' hp
      clear hp
      go_upto_region 6 with (first | (go_at_call 85; refine CB.out.mono ?_; rintro e w' ⟨rfl, hw⟩; have hq := hw.symm; subst hq; clear hw) | fail)
      clear CB
      have hw2 : IntKind.i64.wrap ((p : Int) + (m : Int)) = (p : Int) + (m : Int) := by rw [IntKind.wrap_i64]; omega
      cases hL : hasL X with
      | true =>
        rw [hL] at CC
        have HP2 : Hid ((⟨sw l p p X, (p : Int), false, false, [], 0, false⟩ : Ef) = x) := by rw [← HPX.out]; unfold pbX; rw [← HXL.out, if_neg h0]; dsimp only; rw [if_neg (by simp), HBP.out, hL, if_pos rfl]; rfl
        go_upto_region 8 with (first | (go_at_call 86; refine (CC.out (W1.alloc (.cells #[.int .u8 10] 5)) _ (bAlloc (Below.refl _ _) _) (hc1 W1)).mono ?_; rintro e w' ⟨rfl, hw⟩; have hq := hw.symm; subst hq; clear hw) | fail)
        go_wp2_with (first | (go_at_call 83; refine (CS.out (W1.alloc (.cells #[.int .u8 10] 5)) p hbs (bAlloc (Below.refl _ _) _)).mono ?_; rintro e w5 ⟨⟨v, F, rfl, hF, hE, hb5⟩, hk5⟩; obtain ⟨eo, ec, rfl, -, -⟩ := hE.edz; have J5 := Hid.mk' (J1.out.keep (bT (bAlloc (Below.refl W1.heap.size W1) (.cells #[.int .u8 10] 5)) hk5)); have HF := Hid.mk' hF; have E5 := Hid.mk' hE; have B5 := Hid.mk' hb5; clear hF hE hb5 hk5 CS CC; obtain ⟨j0, j1, j2, j3, j4, j5, j6⟩ := ef_cells J5.out; obtain ⟨f0, f1, f2, f3, f4, f5, f6⟩ := ef_frozen J5.out; have hbk := ef_store J5.out (.slice eo F.length ec) (.int .i64 (p : Int)) (.bool false) (.bool false) (.slice none 0 0) (.int .i64 0) (.bool false); have hgr := ef_grown w5 B (.slice eo F.length ec) (.int .i64 (p : Int)) (.bool false) (.bool false) (.slice none 0 0) (.int .i64 0) (.bool false)) | fail)
        generalize (((((((w5.setCell ⟨B, 0, none⟩ (.slice eo F.length ec)).setCell ⟨B, 1, none⟩ (.int .i64 (p : Int))).setCell ⟨B, 2, none⟩ (.bool false)).setCell ⟨B, 3, none⟩ (.bool false)).setCell ⟨B, 4, none⟩ (.slice none 0 0)).setCell ⟨B, 5, none⟩ (.int .i64 0)).setCell ⟨B, 6, none⟩ (.bool false)) = w9 at *
        obtain ⟨g0, g1, g2, g3, g4, g5, g6⟩ := ef_cells hbk
        refine bodyPost_ret (v := .agg #[.slice eo F.length ec, .int .i64 (p : Int), .bool false, .bool false, .slice none 0 0, .int .i64 0, .bool false]) (by simp [results, Tryz.results50, go_sem, g0, g1, g2, g3, g4, g5, g6]) rfl ?_
        rw [← HP2.out]
        exact EaP.out (x := ⟨sw l p p X, (p : Int), false, false, [], 0, false⟩) HF.out (Efm.bare E5.out) B5.out J5.out (by have := HB.out; have := HB0.out; omega) hgr
      | false =>
        rw [hL] at CC
        have HP2 : Hid ((⟨sw l p p X, ((p : Int) + (m : Int)), false, false, [], 0, false⟩ : Ef) = x) := by rw [← HPX.out]; unfold pbX; rw [← HXL.out, if_neg h0]; dsimp only; rw [if_neg (by simp), HBP.out, hL, if_neg (by simp), HM.out, Int.natCast_add]; rfl
        go_upto_region 8 with (first | (go_at_call 86; refine (CC.out (W1.alloc (.cells #[.int .u8 10] 5)) _ (bAlloc (Below.refl _ _) _) (hc1 W1)).mono ?_; rintro e w' ⟨rfl, hw⟩; have hq := hw.symm; subst hq; clear hw) | fail)
        go_wp2_with (first | (go_at_call 83; refine (CS.out (W1.alloc (.cells #[.int .u8 10] 5)) p hbs (bAlloc (Below.refl _ _) _)).mono ?_; rintro e w5 ⟨⟨v, F, rfl, hF, hE, hb5⟩, hk5⟩; obtain ⟨eo, ec, rfl, -, -⟩ := hE.edz; have J5 := Hid.mk' (J1.out.keep (bT (bAlloc (Below.refl W1.heap.size W1) (.cells #[.int .u8 10] 5)) hk5)); have HF := Hid.mk' hF; have E5 := Hid.mk' hE; have B5 := Hid.mk' hb5; clear hF hE hb5 hk5 CS CC; obtain ⟨j0, j1, j2, j3, j4, j5, j6⟩ := ef_cells J5.out; obtain ⟨f0, f1, f2, f3, f4, f5, f6⟩ := ef_frozen J5.out; have hbk := ef_store J5.out (.slice eo F.length ec) (.int .i64 ((p : Int) + (m : Int))) (.bool false) (.bool false) (.slice none 0 0) (.int .i64 0) (.bool false); have hgr := ef_grown w5 B (.slice eo F.length ec) (.int .i64 ((p : Int) + (m : Int))) (.bool false) (.bool false) (.slice none 0 0) (.int .i64 0) (.bool false)) | fail)
        generalize (((((((w5.setCell ⟨B, 0, none⟩ (.slice eo F.length ec)).setCell ⟨B, 1, none⟩ (.int .i64 ((p : Int) + (m : Int)))).setCell ⟨B, 2, none⟩ (.bool false)).setCell ⟨B, 3, none⟩ (.bool false)).setCell ⟨B, 4, none⟩ (.slice none 0 0)).setCell ⟨B, 5, none⟩ (.int .i64 0)).setCell ⟨B, 6, none⟩ (.bool false)) = w9 at *
        obtain ⟨g0, g1, g2, g3, g4, g5, g6⟩ := ef_cells hbk
        refine bodyPost_ret (v := .agg #[.slice eo F.length ec, .int .i64 ((p : Int) + (m : Int)), .bool false, .bool false, .slice none 0 0, .int .i64 0, .bool false]) (by simp [results, Tryz.results50, go_sem, g0, g1, g2, g3, g4, g5, g6]) rfl ?_
        rw [← HP2.out]
        exact EaP.out (x := ⟨sw l p p X, ((p : Int) + (m : Int)), false, false, [], 0, false⟩) HF.out (Efm.bare E5.out) B5.out J5.out (by have := HB.out; have := HB0.out; omega) hgr
end Go.Proofs.YtppefcnopkmhbaaGreatDoor

namespace Go.Proofs.YtppefcnopkmhbaaGreatDoor
open Go.RowKit

set_option maxRecDepth 8000
/-- the line that putLines puts ahead of -/
def plI (l : List UInt8) (k : Nat) (ah : Bool) : Nat := if ah = true then nl (l.take k) else nl (l.take k) + 1
def plP (l : List UInt8) (i : Nat) : Nat := if i ≤ nl l then sp l i else l.length
def plY (l : List UInt8) (i : Nat) (X : List UInt8) : List UInt8 := if i ≤ nl l then X else 10 :: X.take (X.length - 1)
/-- what putLines answers -/
def plX (l : List UInt8) (i : Nat) (X : List UInt8) : Ef := ⟨sw l (plP l i) (plP l i) (plY l i X), fbh l (sw l (plP l i) (plP l i) (plY l i X)) i, false, false, [], 0, false⟩
theorem ten_own (W : World) : (W.alloc (.cells #[.int .u8 10] 5)).ownsRow W.heap.size 5 1 (.slice (some ⟨W.heap.size, 0, none⟩) 1 1) 1 (bv [10]) :=
  ⟨rfl, .inr ⟨W.heap.size, 1, _, rfl, Nat.le_refl _, Blk.new W 5 _, Nat.le_refl _, by unfold maxLen; omega, rfl, rfl⟩⟩
theorem start_call {ao : Option Addr} {n c i : Nat} {l : List UInt8} {W : World} (HT : Tx W ao n c l) (hn : n ≤ 1048576) (hi : i ≤ n + 1) :
    Calls Tryz.prog 82 #[.slice ao n c, .int .i64 (i : Int)] W fun e w' => e = .returned (.tuple #[.int .i64 (if i ≤ nl l then (sp l i : Int) else 0), .int .i64 (if i ≤ nl l then 0 else 2)]) ∧ w' = W := by
  have h := start_any ao n c (i : Int) l W (by omega) HT
  have e : pr (aStart l (i : Int)) = .returned (.tuple #[.int .i64 (if i ≤ nl l then (sp l i : Int) else 0), .int .i64 (if i ≤ nl l then 0 else 2)]) := by
    by_cases h : i ≤ nl l
    · rw [if_pos h, if_pos h]
      unfold pr aStart ans
      rw [ln_at h]
      rfl
    · rw [if_neg h, if_neg h]
      refine pr_startN ?_
      unfold lnB
      exact decide_eq_false (by omega)
  rw [e] at h
  exact h
set_option maxHeartbeats 8000000 in
set_option linter.unusedSimpArgs false in
theorem putLines_any (w0 : World) (ao : Option Addr) (n c k : Nat) (l : List UInt8) (xp : Option Addr) (xn xc : Nat) (X : List UInt8) (ah : Bool) (w : World) (HT : Hid (Tx w ao n c l)) (hk : k ≤ n) (hbig : n ≤ 1048576) (hB0 : Hid (Below w0.heap.size w0 w)) (HX : Hid (Wb w w0.heap.size w.heap.size (.slice xp xn xc) X)) (hX : X.length ≤ 1048576) (hX1 : 1 ≤ X.length) :
    Calls Tryz.prog 49 #[.slice ao n c, .int .i64 (k : Int), .slice xp xn xc, .bool ah] w fun e w' => EaP (plX l (plI l k ah) X) w0 e w' := by
  have hln := HT.out.len
  have hXl : xn = X.length := by obtain ⟨_, _, e⟩ := HX.out.shape; simp at e; exact e.2.1
  obtain ⟨x, hx⟩ : ∃ x, plX l (plI l k ah) X = x := ⟨_, rfl⟩
  rw [hx]
  have HPX := Hid.mk' hx
  clear hx
  obtain ⟨W1, hW1⟩ : ∃ x, w.alloc (.cells #[.slice none 0 0, .int .i64 0, .bool false, .bool false, .slice none 0 0, .int .i64 0, .bool false] 35) = x := ⟨_, rfl⟩
  obtain ⟨B, hB⟩ : ∃ b, w.heap.size = b := ⟨_, rfl⟩
  have HB := Hid.mk' hB
  have J1 : Hid (Blk W1 B 35 (ef7 (.slice none 0 0) 0 false false (.slice none 0 0) 0 false)) := by unfold Hid; rw [← hW1, ← hB]; exact Blk.new w 35 _
  have hb1 : Below w.heap.size w W1 := by rw [← hW1]; exact bAlloc (Below.refl _ _) _
  have B1 := Hid.mk' (bT hB0.out hb1)
  have HT1 := Hid.mk' (HT.out.keep hb1)
  have HX1 := Hid.mk' ((HX.out.keep hb1).wide (Nat.le_refl _) hb1.size)
  have HB0 := Hid.mk' hB0.out.size
  have hnk := nl_take_le l k
  have hnl := nl_le l
  have CO := Hid.mk' (lof_at' (ao := ao) (c := c) hk HT1.out)
  have CST : Hid (∀ (W : World) (i : Nat), i ≤ n + 1 → Below W1.heap.size W1 W → Calls Tryz.prog 82 #[.slice ao n c, .int .i64 (i : Int)] W fun e w' => e = .returned (.tuple #[.int .i64 (if i ≤ nl l then (sp l i : Int) else 0), .int .i64 (if i ≤ nl l then 0 else 2)]) ∧ w' = W) := fun W i hi hW => start_call (HT1.out.keep hW) hbig hi
  have CS : Hid (∀ (W : World) (p : Nat) (yp : Option Addr) (yn yc : Nat) (Y : List UInt8), p ≤ n → Y.length ≤ 1048577 → Below W1.heap.size W1 W → Wb W w0.heap.size W.heap.size (.slice yp yn yc) Y → Calls Tryz.prog 83 #[.slice ao n c, .int .i64 (p : Int), .int .i64 (p : Int), .slice yp yn yc] W fun e w' => EsP (sw l p p Y) w0 e w' ∧ Below W.heap.size W w') := fun W p yp yn yc Y hp hY hW h => swap_two w0 ao n c p p l yp yn yc Y W (HT1.out.keep hW) (Nat.le_refl _) hp (by omega) (bT B1.out hW) h (by omega)
  have CF : Hid (∀ (W : World) (eo : Option Addr) (ec i en : Nat) (E : List Er) (DD : List Ed), i ≤ n + 1 → E.length = en → en ≤ 1 → Below W1.heap.size W1 W → Edz W eo E → E.map Er.d = DD → nsum DD ≤ 1048577 → Calls Tryz.prog 84 #[.slice ao n c, .slice eo en ec, .int .i64 (i : Int)] W fun e w' => e = .returned (.int .i64 (fbh l DD i)) ∧ Below W.heap.size W w') := fun W eo ec i en E DD hi hen he1 hW hE hD hs => fbh_call (HT1.out.keep hW) hbig hi hen (by omega) hE hD (by omega)
  have HXT := Hid.mk' (HX1.out.tx (by omega))
  have HXL := Hid.mk' hXl
  rw [← hXl] at hX hX1
  clear hb1 HT HX hB0 hXl
  obtain ⟨i0, hi0⟩ : ∃ i0, nl (l.take k) = i0 := ⟨_, rfl⟩
  rw [hi0] at CO hnk
  have HI0 := Hid.mk' hi0
  clear hi0
  have hwi : IntKind.i64.wrap ((i0 : Int) + 1) = (i0 : Int) + 1 := by rw [IntKind.wrap_i64]; omega
  cases ah with
  | true =>
    have hin : i0 ≤ nl l := hnk
    have CST9 : Hid (∀ (W : World), Below W1.heap.size W1 W → Calls Tryz.prog 82 #[.slice ao n c, .int .i64 ((i0 : Int))] W fun e w' => e = .returned (.tuple #[.int .i64 ((sp l (i0) : Int)), .int .i64 0]) ∧ w' = W) := fun W hW => by
      have h := CST.out W (i0) (by omega) hW
      rw [if_pos hin, if_pos hin] at h
      exact h
    clear CST
    obtain ⟨p, hp⟩ : ∃ p, sp l (i0) = p := ⟨_, rfl⟩
    have hpn : p ≤ n := by have := sp_le (t := l) hin; omega
    rw [hp] at CST9
    have HPP := Hid.mk' hp
    clear hp
    go_enter Tryz.func49, Tryz.ntmps49
    go_upto_region 1 with fail
    clear hW1 hB
    go_upto_region 8 with (first | (go_at_call 77; refine CO.out.mono ?_; rintro e w2 ⟨rfl, hb2⟩; have J2 := Hid.mk' (J1.out.keep hb2); have B2 := Hid.mk' hb2; clear hb2 J1 CO) | (go_at_call 82; refine (CST9.out w2 B2.out).mono ?_; rintro e w' ⟨rfl, hw⟩; have hq := hw.symm; subst hq; clear hw) | fail)
    clear CST9
    have HYL : Hid (X.length ≤ 1048577) := by have := HXL.out; unfold Hid; omega
    have HYW : Hid (Wb w2 w0.heap.size w2.heap.size (.slice xp xn xc) X) := (HX1.out.keep B2.out).wide (Nat.le_refl _) B2.out.size
    clear HX1 HXT
    obtain ⟨D, hD⟩ : ∃ D, sw l p p (X) = D := ⟨_, rfl⟩
    have HDS := Hid.mk' hD
    have hns := nsum_sw l p p (X)
    have hsl := sw_len l p p (X)
    have CX := Hid.mk' (CS.out w2 p xp xn xc (X) hpn HYL.out B2.out HYW.out)
    rw [hD] at CX hns hsl
    clear hD CS
    go_wp2_with fail
    refine CX.out.mono ?_
    rintro e w5 ⟨⟨v, F, rfl, hF, hE, hb5⟩, hk5⟩
    obtain ⟨eo, ec, rfl, hZ, -⟩ := hE.edz
    obtain ⟨en, hen⟩ : ∃ en, F.length = en := ⟨_, rfl⟩
    rw [hen] at hE ⊢
    have hen1 : en ≤ 1 := by rw [← hen, ← List.length_map (f := Er.d), hF]; exact hsl
    have J5 := Hid.mk' (J2.out.keep hk5)
    have HF := Hid.mk' hF
    have E5 := Hid.mk' hE
    have B5 := Hid.mk' hb5
    have K5 := Hid.mk' (bT B2.out hk5)
    have CY := Hid.mk' (CF.out w5 eo ec (i0) en F D (by omega) hen hen1 K5.out hZ hF (by have := HYL.out; omega))
    obtain ⟨cf, hcf⟩ : ∃ cf, fbh l D (i0) = cf := ⟨_, rfl⟩
    rw [hcf] at CY
    have HCF := Hid.mk' hcf
    clear hF hE hb5 hk5 hZ CX CF hcf
    dsimp only
    go_wp2_with fail
    refine CY.out.mono ?_
    rintro e w6 ⟨rfl, hb6⟩
    have J6 := Hid.mk' (J5.out.keep hb6)
    have E6 := Hid.mk' ((E5.out.keep hb6).wide (Nat.le_refl _) hb6.size)
    have B6 := Hid.mk' (B5.out.trans (hb6.mono B5.out.size))
    clear hb6 CY J5
    dsimp only
    obtain ⟨j0, j1, j2, j3, j4, j5, j6⟩ := ef_cells J6.out
    obtain ⟨f0, f1, f2, f3, f4, f5, f6⟩ := ef_frozen J6.out
    have hbk := ef_store J6.out (.slice eo en ec) (.int .i64 cf) (.bool false) (.bool false) (.slice none 0 0) (.int .i64 0) (.bool false)
    have hgr := ef_grown w6 B (.slice eo en ec) (.int .i64 cf) (.bool false) (.bool false) (.slice none 0 0) (.int .i64 0) (.bool false)
    go_wp2_with fail
    generalize (((((((w6.setCell ⟨B, 0, none⟩ (.slice eo en ec)).setCell ⟨B, 1, none⟩ (.int .i64 cf)).setCell ⟨B, 2, none⟩ (.bool false)).setCell ⟨B, 3, none⟩ (.bool false)).setCell ⟨B, 4, none⟩ (.slice none 0 0)).setCell ⟨B, 5, none⟩ (.int .i64 0)).setCell ⟨B, 6, none⟩ (.bool false)) = w9 at *
    obtain ⟨g0, g1, g2, g3, g4, g5, g6⟩ := ef_cells hbk
    refine bodyPost_ret (v := .agg #[.slice eo en ec, .int .i64 cf, .bool false, .bool false, .slice none 0 0, .int .i64 0, .bool false]) (by simp [results, Tryz.results49, go_sem, g0, g1, g2, g3, g4, g5, g6]) rfl ?_
    have hI : plI l k true = i0 := by unfold plI; rw [if_pos rfl, HI0.out]
    have HP2 : (⟨D, cf, false, false, [], 0, false⟩ : Ef) = x := by
      rw [← HPX.out, ← HCF.out, ← HDS.out, hI]
      unfold plX plP plY
      rw [if_pos hin, if_pos hin, HPP.out]
    rw [← HP2]
    exact EaP.out (x := ⟨D, cf, false, false, [], 0, false⟩) HF.out (Efm.bare E6.out) B6.out J6.out (by have := HB.out; have := HB0.out; omega) hgr
  | false =>
    by_cases hin : i0 + 1 ≤ nl l
    · skip
      have CST9 : Hid (∀ (W : World), Below W1.heap.size W1 W → Calls Tryz.prog 82 #[.slice ao n c, .int .i64 ((i0 : Int) + 1)] W fun e w' => e = .returned (.tuple #[.int .i64 ((sp l (i0 + 1) : Int)), .int .i64 0]) ∧ w' = W) := fun W hW => by
        have h := CST.out W (i0 + 1) (by omega) hW
        rw [if_pos hin, if_pos hin] at h
        exact h
      clear CST
      obtain ⟨p, hp⟩ : ∃ p, sp l (i0 + 1) = p := ⟨_, rfl⟩
      have hpn : p ≤ n := by have := sp_le (t := l) hin; omega
      rw [hp] at CST9
      have HPP := Hid.mk' hp
      clear hp
      go_enter Tryz.func49, Tryz.ntmps49
      go_upto_region 1 with fail
      clear hW1 hB
      go_upto_region 8 with (first | (go_at_call 77; refine CO.out.mono ?_; rintro e w2 ⟨rfl, hb2⟩; have J2 := Hid.mk' (J1.out.keep hb2); have B2 := Hid.mk' hb2; clear hb2 J1 CO) | (go_at_call 82; refine (CST9.out w2 B2.out).mono ?_; rintro e w' ⟨rfl, hw⟩; have hq := hw.symm; subst hq; clear hw) | fail)
      clear CST9
      have HYL : Hid (X.length ≤ 1048577) := by have := HXL.out; unfold Hid; omega
      have HYW : Hid (Wb w2 w0.heap.size w2.heap.size (.slice xp xn xc) X) := (HX1.out.keep B2.out).wide (Nat.le_refl _) B2.out.size
      clear HX1 HXT
      obtain ⟨D, hD⟩ : ∃ D, sw l p p (X) = D := ⟨_, rfl⟩
      have HDS := Hid.mk' hD
      have hns := nsum_sw l p p (X)
      have hsl := sw_len l p p (X)
      have CX := Hid.mk' (CS.out w2 p xp xn xc (X) hpn HYL.out B2.out HYW.out)
      rw [hD] at CX hns hsl
      clear hD CS
      go_wp2_with fail
      refine CX.out.mono ?_
      rintro e w5 ⟨⟨v, F, rfl, hF, hE, hb5⟩, hk5⟩
      obtain ⟨eo, ec, rfl, hZ, -⟩ := hE.edz
      obtain ⟨en, hen⟩ : ∃ en, F.length = en := ⟨_, rfl⟩
      rw [hen] at hE ⊢
      have hen1 : en ≤ 1 := by rw [← hen, ← List.length_map (f := Er.d), hF]; exact hsl
      have J5 := Hid.mk' (J2.out.keep hk5)
      have HF := Hid.mk' hF
      have E5 := Hid.mk' hE
      have B5 := Hid.mk' hb5
      have K5 := Hid.mk' (bT B2.out hk5)
      have CY := Hid.mk' (CF.out w5 eo ec (i0 + 1) en F D (by omega) hen hen1 K5.out hZ hF (by have := HYL.out; omega))
      obtain ⟨cf, hcf⟩ : ∃ cf, fbh l D (i0 + 1) = cf := ⟨_, rfl⟩
      rw [hcf] at CY
      have HCF := Hid.mk' hcf
      clear hF hE hb5 hk5 hZ CX CF hcf
      dsimp only
      go_wp2_with fail
      refine CY.out.mono ?_
      rintro e w6 ⟨rfl, hb6⟩
      have J6 := Hid.mk' (J5.out.keep hb6)
      have E6 := Hid.mk' ((E5.out.keep hb6).wide (Nat.le_refl _) hb6.size)
      have B6 := Hid.mk' (B5.out.trans (hb6.mono B5.out.size))
      clear hb6 CY J5
      dsimp only
      obtain ⟨j0, j1, j2, j3, j4, j5, j6⟩ := ef_cells J6.out
      obtain ⟨f0, f1, f2, f3, f4, f5, f6⟩ := ef_frozen J6.out
      have hbk := ef_store J6.out (.slice eo en ec) (.int .i64 cf) (.bool false) (.bool false) (.slice none 0 0) (.int .i64 0) (.bool false)
      have hgr := ef_grown w6 B (.slice eo en ec) (.int .i64 cf) (.bool false) (.bool false) (.slice none 0 0) (.int .i64 0) (.bool false)
      go_wp2_with fail
      generalize (((((((w6.setCell ⟨B, 0, none⟩ (.slice eo en ec)).setCell ⟨B, 1, none⟩ (.int .i64 cf)).setCell ⟨B, 2, none⟩ (.bool false)).setCell ⟨B, 3, none⟩ (.bool false)).setCell ⟨B, 4, none⟩ (.slice none 0 0)).setCell ⟨B, 5, none⟩ (.int .i64 0)).setCell ⟨B, 6, none⟩ (.bool false)) = w9 at *
      obtain ⟨g0, g1, g2, g3, g4, g5, g6⟩ := ef_cells hbk
      refine bodyPost_ret (v := .agg #[.slice eo en ec, .int .i64 cf, .bool false, .bool false, .slice none 0 0, .int .i64 0, .bool false]) (by simp [results, Tryz.results49, go_sem, g0, g1, g2, g3, g4, g5, g6]) rfl ?_
      have hI : plI l k false = i0 + 1 := by unfold plI; rw [if_neg (by decide), HI0.out]
      have HP2 : (⟨D, cf, false, false, [], 0, false⟩ : Ef) = x := by
        rw [← HPX.out, ← HCF.out, ← HDS.out, hI]
        unfold plX plP plY
        rw [if_pos hin, if_pos hin, HPP.out]
      rw [← HP2]
      exact EaP.out (x := ⟨D, cf, false, false, [], 0, false⟩) HF.out (Efm.bare E6.out) B6.out J6.out (by have := HB.out; have := HB0.out; omega) hgr
    · skip
      have CST9 : Hid (∀ (W : World), Below W1.heap.size W1 W → Calls Tryz.prog 82 #[.slice ao n c, .int .i64 ((i0 : Int) + 1)] W fun e w' => e = .returned (.tuple #[.int .i64 (0), .int .i64 2]) ∧ w' = W) := fun W hW => by
        have h := CST.out W (i0 + 1) (by omega) hW
        rw [if_neg hin, if_neg hin] at h
        exact h
      clear CST
      go_enter Tryz.func49, Tryz.ntmps49
      go_upto_region 1 with fail
      clear hW1 hB
      go_upto_region 7 with (first | (go_at_call 77; refine CO.out.mono ?_; rintro e w2 ⟨rfl, hb2⟩; have J2 := Hid.mk' (J1.out.keep hb2); have B2 := Hid.mk' hb2; clear hb2 J1 CO) | (go_at_call 82; refine (CST9.out w2 B2.out).mono ?_; rintro e w' ⟨rfl, hw⟩; have hq := hw.symm; subst hq; clear hw) | fail)
      clear CST9
      obtain ⟨m, hm⟩ : ∃ m, xn - 1 = m := ⟨_, rfl⟩
      have hwm : IntKind.i64.wrap ((xn : Int) - 1) = (m : Int) := by rw [IntKind.wrap_i64]; omega
      have hmx : m ≤ xn := by omega
      obtain ⟨a7, c7, hs7, hT7⟩ := sl_h HXT.out hmx
      have HM := Hid.mk' hm
      have T7 := Hid.mk' (hT7.keep (bT B2.out (bAlloc (Below.refl w2.heap.size w2) (.cells #[.int .u8 10] 5))))
      have HLm : Hid ((bv (X.take m)).length = m) := by unfold Hid; rw [bv_length, List.length_take, ← HXL.out]; omega
      clear hm hT7
      go_wp2_with (at_builtin; refine append_big rfl (.tmp 34) (.tmp 39) rfl w2.heap.size (.slice (some ⟨w2.heap.size, 0, none⟩) 1 1) 1 (bv [10]) rfl (ten_own w2) (.slice a7 m c7) m (bv (X.take m)) rfl T7.out.srv HLm.out (bv_one _) (by omega) (by omega) (by rw [World.size_alloc]; omega) ?_)
      intro v1 w3 hown hgrow _
      obtain ⟨yp, yc, rfl⟩ := own_shape hown
      have hb3 : Below w2.heap.size w2 w3 := (bAlloc (Below.refl w2.heap.size w2) (.cells #[.int .u8 10] 5)).grown hgrow (by rw [World.size_alloc]; omega) (by intro k hk; simp [Value.ownBlock] at hk; omega)
      have HYW : Hid (Wb w3 w0.heap.size w3.heap.size (.slice yp (1 + m) yc) (10 :: X.take m)) := (Wb.new (w := w2) hown).wide (Nat.le_trans B1.out.size B2.out.size) (Nat.le_refl _)
      have J3 := Hid.mk' (J2.out.keep hb3)
      have B3 := Hid.mk' (bT B2.out hb3)
      have HYL : Hid ((10 :: X.take m).length ≤ 1048577) := by unfold Hid; rw [List.length_cons, List.length_take, ← HXL.out]; omega
      clear hown hgrow hb3 J2 B2 hs7
      go_upto_region 8 with fail
      obtain ⟨D, hD⟩ : ∃ D, sw l n n (10 :: X.take m) = D := ⟨_, rfl⟩
      have HDS := Hid.mk' hD
      have hns := nsum_sw l n n (10 :: X.take m)
      have hsl := sw_len l n n (10 :: X.take m)
      have CX := Hid.mk' (CS.out w3 n yp (1 + m) yc (10 :: X.take m) (Nat.le_refl n) HYL.out B3.out HYW.out)
      rw [hD] at CX hns hsl
      clear hD CS
      go_wp2_with fail
      refine CX.out.mono ?_
      rintro e w5 ⟨⟨v, F, rfl, hF, hE, hb5⟩, hk5⟩
      obtain ⟨eo, ec, rfl, hZ, -⟩ := hE.edz
      obtain ⟨en, hen⟩ : ∃ en, F.length = en := ⟨_, rfl⟩
      rw [hen] at hE ⊢
      have hen1 : en ≤ 1 := by rw [← hen, ← List.length_map (f := Er.d), hF]; exact hsl
      have J5 := Hid.mk' (J3.out.keep hk5)
      have HF := Hid.mk' hF
      have E5 := Hid.mk' hE
      have B5 := Hid.mk' hb5
      have K5 := Hid.mk' (bT B3.out hk5)
      have CY := Hid.mk' (CF.out w5 eo ec (i0 + 1) en F D (by omega) hen hen1 K5.out hZ hF (by have := HYL.out; omega))
      obtain ⟨cf, hcf⟩ : ∃ cf, fbh l D (i0 + 1) = cf := ⟨_, rfl⟩
      rw [hcf] at CY
      have HCF := Hid.mk' hcf
      clear hF hE hb5 hk5 hZ CX CF hcf
      dsimp only
      go_wp2_with fail
      refine CY.out.mono ?_
      rintro e w6 ⟨rfl, hb6⟩
      have J6 := Hid.mk' (J5.out.keep hb6)
      have E6 := Hid.mk' ((E5.out.keep hb6).wide (Nat.le_refl _) hb6.size)
      have B6 := Hid.mk' (B5.out.trans (hb6.mono B5.out.size))
      clear hb6 CY J5
      dsimp only
      obtain ⟨j0, j1, j2, j3, j4, j5, j6⟩ := ef_cells J6.out
      obtain ⟨f0, f1, f2, f3, f4, f5, f6⟩ := ef_frozen J6.out
      have hbk := ef_store J6.out (.slice eo en ec) (.int .i64 cf) (.bool false) (.bool false) (.slice none 0 0) (.int .i64 0) (.bool false)
      have hgr := ef_grown w6 B (.slice eo en ec) (.int .i64 cf) (.bool false) (.bool false) (.slice none 0 0) (.int .i64 0) (.bool false)
      go_wp2_with fail
      generalize (((((((w6.setCell ⟨B, 0, none⟩ (.slice eo en ec)).setCell ⟨B, 1, none⟩ (.int .i64 cf)).setCell ⟨B, 2, none⟩ (.bool false)).setCell ⟨B, 3, none⟩ (.bool false)).setCell ⟨B, 4, none⟩ (.slice none 0 0)).setCell ⟨B, 5, none⟩ (.int .i64 0)).setCell ⟨B, 6, none⟩ (.bool false)) = w9 at *
      obtain ⟨g0, g1, g2, g3, g4, g5, g6⟩ := ef_cells hbk
      refine bodyPost_ret (v := .agg #[.slice eo en ec, .int .i64 cf, .bool false, .bool false, .slice none 0 0, .int .i64 0, .bool false]) (by simp [results, Tryz.results49, go_sem, g0, g1, g2, g3, g4, g5, g6]) rfl ?_
      have hI : plI l k false = i0 + 1 := by unfold plI; rw [if_neg (by decide), HI0.out]
      have HP2 : (⟨D, cf, false, false, [], 0, false⟩ : Ef) = x := by
        rw [← HPX.out, ← HCF.out, ← HDS.out, hI]
        unfold plX plP plY
        rw [if_neg hin, if_neg hin, hln, ← HXL.out, HM.out]
      rw [← HP2]
      exact EaP.out (x := ⟨D, cf, false, false, [], 0, false⟩) HF.out (Efm.bare E6.out) B6.out J6.out (by have := HB.out; have := HB0.out; omega) hgr
end Go.Proofs.YtppefcnopkmhbaaGreatDoor
