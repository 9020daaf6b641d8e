/- PatternFinds, walked. -/
import Derived.Test.YtaakgoojcogbcaaZAllsW
import Derived.Test.YtaakgoojcogbcaaXi
import Derived.Laws.OwnMore
namespace Go.Proofs.Ytaakgoojcogbcaa
open Go.RowKit
theorem add9 (p q : List UInt8) (h : p.length + q.length ≤ 9223372036854775807) (W : World) : (Op.stringOp .add ⟨p.toArray⟩ ⟨q.toArray⟩).run Try.prog W = .ok (.string ⟨(p ++ q).toArray⟩) W := by
  have e : (⟨p.toArray⟩ : ByteArray) ++ ⟨q.toArray⟩ = ⟨(p ++ q).toArray⟩ := by
    apply ByteArray.ext
    simp
  rw [run_string_add_sum _ _ _ (by simpa [ByteArray.size] using h), e]
theorem app9 (p q : List UInt8) : (⟨p.toArray⟩ : ByteArray) ++ ⟨q.toArray⟩ = ⟨(p ++ q).toArray⟩ := by
  apply ByteArray.ext
  simp
/-- numbers that are handed in -/
def Isr (w : World) (ai : Option Addr) (n : Nat) (z : Nat → Int) : Prop := ∀ j, j < n → ∃ g o, ai = some ⟨g, o, none⟩ ∧ w.cell? ⟨g, o + j, none⟩ = some (.int .i64 (z j))
theorem Isr.keep {w w' : World} {ai : Option Addr} {n : Nat} {z : Nat → Int} (h : Isr w ai n z) (hb : Below w.heap.size w w') : Isr w' ai n z := fun j hj => by
  obtain ⟨g, o, e, c⟩ := h j hj
  exact ⟨g, o, e, keepC hb c⟩
/-- a pattern stays where a row of bytes is written -/
theorem Pat.off {base base' : Nat} {W W' : World} {P : Nat} {l : List Th} {v : Value} {n : Nat} {xs : List Value} {g : Nat} (h : Pat base W P l) (ho : W.ownsRow base' 5 1 v n xs) (hg : v.ownBlock = some g) (hw : W.grownBy W' (some g)) : Pat base W' P l := by
  obtain ⟨h0, tv, h1, h2⟩ := h
  have n1 : some g ≠ some P := by rw [← hg]; exact own_far ho h1 (by decide)
  have n2 : tv.ownBlock ≠ some g := fun e => by
    have := far_type h2 ho (by decide)
    exact this g e hg
  exact ⟨h0, tv, grow_blk h1 hw n1, own_sx h2 n2 hw⟩
theorem front_tx {w : World} {ao : Option Addr} {n m c : Nat} {l q : List UInt8} (hl : l.length = n) (h : Tx w ao (n + m) c (l ++ q)) : Tx w ao n c l := by
  have := h.head (i := n) (by omega)
  rw [List.take_append_of_le_length (by omega), ← hl, List.take_length] at this
  rw [hl] at this
  exact this
set_option maxRecDepth 8000 in
set_option maxHeartbeats 16000000 in
theorem patternFinds_walk (HSC : SearchC) (w : World) (ap : Option Addr) (np cp_ : Nat) (p : List UInt8) (ao : Option Addr) (nl cl : Nat) (line : List UInt8) (ai : Option Addr) (ni ci : Nat) (z : Nat → Int) (hnp : np ≤ 140737488351232) (hnl : nl ≤ 140737488351232) (HP : Hid (Tx w ap np cp_ p)) (HT : Hid (Tx w ao nl cl line)) (HI : Hid (Isr w ai ni z)) :
    Calls Try.prog 3 #[.slice ap np cp_, .slice ao nl cl, .slice ai ni ci] w fun e w' => e = .returned (.bool true) ∧ Below w.heap.size w w' := by
  obtain ⟨i0, hi, hz0, hz1, hz2⟩ := infoB
  have hplen := HP.out.len
  have hllen := HT.out.len
  go_enter Try.func3, Try.ntmps3
  go_wp2_with (first | (go_at_call 11; refine (alive_any _).mono ?_; rintro e w1 ⟨rfl, hb1⟩; have B1 := Hid.mk' hb1; clear hb1) | (at_builtin; refine append_srv rfl (.tmp 22) (.tmp 23) 22 rfl w1.heap.size 5 i0 (.int .u8 0) 1 1 Try.underlying22 hi hz0 hz1 hz2 rfl (by decide) (.slice (some ⟨w1.heap.size, 0, none⟩) 0 0) 0 [] rfl (World.ownsRow_made w1 #[] 0 (Nat.le_refl _) (Nat.zero_le _) rfl) (.slice ap np cp_) np (bv p) rfl ((HP.out.keep (bAlloc B1.out _)).srv) (by rw [bv_length, hplen]; omega) (bv_one p) (by unfold maxLen; omega) (by omega) (by simp) ?_))
  intro v1 w2 hown hgrow _
  have HW1 : Hid (w2.ownsRow w1.heap.size 5 1 v1 np (bv p)) := by unfold Hid; simpa using hown
  have L1 : Hid (Below w1.heap.size w1 w2) := ((Below.refl _ w1).alloc (Nat.le_refl _) _).grown hgrow (by simp) (by intro k hk; simp [Value.ownBlock] at hk; omega)
  clear hown hgrow
  obtain ⟨a1, c1, e1, t1⟩ := own_tx hplen (by omega) HW1.out
  subst e1
  have CC := Hid.mk' (compile_any a1 np c1 p w2 t1)
  clear t1
  go_wp2_with fail
  refine CC.out.mono ?_
  intro e w3 hC
  have hb3 := hC.1
  have L3 := Hid.mk' (bT B1.out (bT L1.out hb3))
  have O3 := Hid.mk' (own_keep HW1.out hb3)
  have L13 := Hid.mk' (bT L1.out hb3)
  obtain ⟨P3, x3, y3, he3, HC3⟩ : ∃ (P3 : Option Addr) (x3 y3 : Int), e = .returned (.tuple #[.pointer P3, .int .i64 x3, .int .i64 y3]) ∧ Hid ((gd p ∧ y3 = 0 ∧ (cmp p).2.length ≤ 256 ∧ ∃ P, P3 = some ⟨P, 0, none⟩ ∧ Pat w2.heap.size w3 P (cmp p).2) ∨ (y3 ≠ 0 ∧ P3 = none)) := by
    obtain ⟨_, h | h | h⟩ := hC
    · exact ⟨none, 0, 1, h.2, .inr ⟨by decide, rfl⟩⟩
    · exact ⟨none, _, 110, h.2.2, .inr ⟨by decide, rfl⟩⟩
    · obtain ⟨h1, h2, h3, P, h4, h5⟩ := h
      exact ⟨some ⟨P, 0, none⟩, 0, 0, h4, .inl ⟨⟨h1, h2⟩, rfl, by omega, P, rfl, h5⟩⟩
  subst he3
  clear hC hb3 CC HW1 L1
  go_wp2_with fail
  go_loopg [11] np (fun m x11 wx => ∃ i : Nat, x11 = .int .i64 (i : Int) ∧ i + m = np ∧ Hid (Below w1.heap.size w1 wx) ∧ Hid (∃ xs, wx.ownsRow w1.heap.size 5 1 (.slice a1 np c1) np xs) ∧ Hid (∀ P l, Pat w2.heap.size w3 P l → Pat w2.heap.size wx P l))
  case atStart => exact ⟨0, rfl, by omega, L13.out, ⟨_, O3.out⟩, fun _ _ h => h⟩
  case round =>
    clear L13 O3
    obtain ⟨i, rfl, him, LB, HX, HPt⟩ := hrel
    obtain ⟨xs, ho⟩ := HX.out
    cases gk with
    | succ m =>
      have hin : (i : Int) < (np : Int) := by omega
      obtain ⟨g, cap, eg, _, _⟩ := own_some ho (by omega)
      injection eg with eg1 eg2 eg3
      subst eg1 eg3
      have hxl : xs.length = np := by have := ho.1; omega
      have cx := ho.cellAt i (by omega)
      rw [List.getElem?_eq_getElem (by omega)] at cx
      have fz := ho.frozenAt i
      obtain ⟨s1, s2⟩ := ho.stored i (.int .u8 46)
      have S1 := Hid.mk' s1
      have S2 := Hid.mk' s2
      have SL : Hid (Below w1.heap.size w1 (wr.setCell ⟨g, i, none⟩ (.int .u8 46))) := LB.out.grown s2 LB.out.size (fun k hk => by injection hk with hk; subst hk; exact (ho.lt _ rfl).1)
      have HPP : Hid (∀ P l, Pat w2.heap.size w3 P l → Pat w2.heap.size (wr.setCell ⟨g, i, none⟩ (.int .u8 46)) P l) := fun P l h => (HPt.out P l h).off ho rfl s2
      obtain ⟨u, HU⟩ : ∃ u, Hid (xs[i]'(by omega) = u) := ⟨_, Hid.mk' rfl⟩
      rw [HU.out] at cx
      clear s1 s2 ho HX
      go_wp2
      go_roundg m
      case measure => omega
      case rel => exact ⟨i + 1, by go_num, by omega, SL.out, ⟨_, S1.out⟩, HPP.out⟩
    | zero =>
      have hin : ¬ ((i : Int) < (np : Int)) := by omega
      have HBA := Hid.mk' (bT B1.out LB.out)
      clear ho HX him
      rcases HC3.out with ⟨hg, hy0, hl, P, hP3, hPat⟩ | ⟨hy, hP3⟩
      · subst hy0 hP3
        have HPat := Hid.mk' (HPt.out _ _ hPat)
        have HG := Hid.mk' hg
        clear hPat hg HPt HC3
        obtain ⟨W5, hW5⟩ : ∃ W5, W5 = wr := ⟨_, rfl⟩
        subst hW5
        go_wp2_with (at_builtin; refine append_srv rfl (.tmp 44) (.tmp 45) 22 rfl W5.heap.size 5 i0 (.int .u8 0) 1 1 Try.underlying22 hi hz0 hz1 hz2 rfl (by decide) (.slice (some ⟨W5.heap.size, 0, none⟩) 0 0) 0 [] rfl (World.ownsRow_made W5 #[] 0 (Nat.le_refl _) (Nat.zero_le _) rfl) (.slice ao nl cl) nl (bv line) rfl ((HT.out.keep (bAlloc HBA.out _)).srv) (by rw [bv_length, hllen]; omega) (bv_one line) (by unfold maxLen; omega) (by omega) (by simp) ?_)
        intro v6 w6 hown hgrow _
        have HW6 : Hid (w6.ownsRow W5.heap.size 5 1 v6 nl (bv line)) := by unfold Hid; simpa using hown
        have L6 : Hid (Below W5.heap.size W5 w6) := ((Below.refl _ W5).alloc (Nat.le_refl _) _).grown hgrow (by simp) (by intro k hk; simp [Value.ownBlock] at hk; omega)
        clear hown hgrow
        go_wp2_with (at_builtin; refine append_srv rfl (.tmp 46) (.tmp 47) 22 rfl W5.heap.size 5 i0 (.int .u8 0) 1 1 Try.underlying22 hi hz0 hz1 hz2 rfl (by decide) v6 nl (bv line) rfl (HW6.out.alloc _) (.slice (some ⟨w6.heap.size, 0, none⟩) 2 2) 2 (bv [120, 121]) rfl (.inr ⟨⟨w6.heap.size, 0, none⟩, 2, rfl, fun k u hk => lit_cells w6 _ 5 k u hk⟩) rfl (bv_one _) (by unfold maxLen; omega) (by omega) (by have := L6.out.size; simp; omega) ?_)
        intro v7 w7 hown hgrow _
        have L7 : Hid (Below W5.heap.size W5 w7) := (bAlloc L6.out _).grown hgrow (by have := L6.out.size; simp; omega) (fun k hk => (HW6.out.lt k hk).1)
        rw [← bv_append] at hown
        obtain ⟨g7, cap7, e7, hc1, hc2⟩ := own_some hown (by omega)
        subst e7
        obtain ⟨a8, c8, e8, tB⟩ := own_tx (l := line ++ [120, 121]) (n := nl + 2) (by simp [hllen]) (by omega) hown
        injection e8 with e8 _ e9
        subst e8 e9
        have TB := Hid.mk' tB
        have TA := Hid.mk' (front_tx hllen tB)
        have HP7 := Hid.mk' (HPat.out.keep L7.out)
        have B7 := Hid.mk' (bT HBA.out L7.out)
        have hx0 : (0 : Int) ≤ (nl : Int) := by omega
        have hx1 : (nl : Int) ≤ (cap7 : Int) := by omega
        have hx2 : ¬ cap7 = 0 := by omega
        clear hown hgrow hc2 tB HW6 L6 L7 HPat LB HBA
        go_wp2_with fail
        go_loopg [13, 14, 15, 16, 17, 18, 19] ni (fun m x13 x14 x15 x16 x17 x18 x19 wx => ∃ i : Nat, x13 = .int .i64 (i : Int) ∧ i + m = ni ∧ i ≤ 50 ∧ Hid (Below w7.heap.size w7 wx))
        case atStart => exact ⟨0, rfl, by omega, by omega, Below.refl _ _⟩
        case round =>
          obtain ⟨j, rfl, hjm, hj50, HB⟩ := hrel
          have B8 := Hid.mk' (bT B7.out HB.out)
          cases gk with
          | zero =>
            have hjn : ¬ ((j : Int) < (ni : Int)) := by omega
            have hjd : decide ((j : Int) < (ni : Int)) = false := decide_eq_false hjn
            go_wp2
            go_ret
            exact ⟨rfl, B8.out⟩
          | succ m =>
            have hjn : (j : Int) < (ni : Int) := by omega
            have hjd : decide ((j : Int) < (ni : Int)) = true := decide_eq_true hjn
            by_cases h50 : j < 50
            · have h50' : decide ((j : Int) < 50) = true := decide_eq_true (by omega)
              have h50n : (j : Int) < 50 := by omega
              obtain ⟨gi, oi, ei, hci⟩ := HI.out j (by omega)
              subst ei
              have cz := keepC B8.out hci
              obtain ⟨f, HF⟩ : ∃ f, Hid (z j = f) := ⟨_, rfl⟩
              rw [HF.out] at cz
              have hS0 : (wr.drew).cell? ⟨gi, oi + j, none⟩ = some (.int .i64 f) := cz
              have CF := Hid.mk' (fun W (h : Below w7.heap.size w7 W) => find_any w2.heap.size W P (cmp p).2 (some ⟨g7, 0, none⟩) nl cap7 line f hl (HP7.out.keep h) (TA.out.keep h))
              clear hci
              go_wp2_with fail
              go_region_held3 (fun w' => w'.cell? ⟨gi, oi + j, none⟩ = some (.int .i64 f)) (with_reducible assumption)
                (first | (go_at_call 13; refine (CF.out _ HB.out.drew).mono ?_; rintro e wf ⟨fa, fb, ok, rfl, hfi, hbf⟩; have hS2 := keepC hbf hS0) | fail)
              have Bf := Hid.mk' (bT HB.out.drew hbf)
              have B9 := Hid.mk' (bT B7.out Bf.out)
              have HFI := Hid.mk' hfi
              clear hfi hbf CF HB B8 hS0
              have CR := Hid.mk' (rfind_any HSC wf ap np cp_ p ao nl cl line f (HP.out.keep B9.out) (HT.out.keep B9.out))
              go_wp2_with fail
              refine CR.out.mono ?_
              rintro e wg ⟨hbg, ga, gbb, gok, rfl, hgi⟩
              obtain ⟨r1, r2, r3⟩ := HFI.out.one (hgi ⟨HG.out.1, HG.out.2⟩)
              subst r1 r2 r3
              have Bg := Hid.mk' (bT Bf.out hbg)
              have B10 := Hid.mk' (bT B9.out hbg)
              have TB9 := Hid.mk' (TB.out.keep Bg.out)
              have T9 := Hid.mk' (HT.out.keep B10.out)
              have cv10 := conv_tx TB9.out
              have cv20 := conv_tx T9.out
              have hadd := add9 line [120, 121] (by simp; omega)
              have happ := app9 line [120, 121]
              have hsz1 : ¬ (9223372036854775807 < (⟨line.toArray⟩ : ByteArray).size + 2) := by simp [ByteArray.size]; omega
              have hsz2 : ¬ (9223372036854775807 < line.length + 2) := by omega
              have hsz3 : ¬ ((9223372036854775807 : Int) < (line.length : Int) + 2) := by omega
              have hsz4 : line.length + 2 ≤ 9223372036854775807 := by omega
              clear hbg hgi CR B9 Bf HFI hS2
              cases ok
              all_goals go_wp2_with fail
              all_goals go_roundg m
              all_goals try omega
              all_goals exact ⟨j + 1, by go_num, by omega, by omega, Bg.out⟩
            · have h50' : decide ((j : Int) < 50) = false := decide_eq_false (by omega)
              have h50n : ¬ ((j : Int) < 50) := by omega
              go_wp2
              go_ret
              exact ⟨rfl, B8.out⟩
      · subst hP3
        have hy' : (y3 != 0) = true := by simpa using hy
        clear hy HC3
        go_wp2
        go_ret
        exact ⟨rfl, HBA.out⟩
end Go.Proofs.Ytaakgoojcogbcaa
