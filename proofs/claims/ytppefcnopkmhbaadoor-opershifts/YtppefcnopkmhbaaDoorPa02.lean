/- Splt, Lists, Sml, Fn2, Big -/
import Derived.Test.YtppefcnopkmhbaaDoorPa01
import Derived.Laws.MakeOwn
import Derived.Lib.BufferRead
namespace Go.Proofs.YtppefcnopkmhbaaDoor
open Go.RowKit

theorem info22 : (Tryd.prog.info? 22).map (fun i => (i.zero, i.size, i.bytes)) = some (some (.slice none 0 0), 1, 24) := by kernel_rfl

/-- line number i -/
def ln (l : List UInt8) (i : Nat) : List UInt8 := (l.drop (sp l i)).take (en l (sp l i) - sp l i)
/-- the first k lines -/
def lns (l : List UInt8) (k : Nat) : List (List UInt8) := (List.range k).map (ln l)
theorem lns_succ (l : List UInt8) (k : Nat) : lns l (k + 1) = lns l k ++ [ln l k] := by unfold lns; rw [List.range_succ, List.map_append]; rfl
theorem lns_length (l : List UInt8) (k : Nat) : (lns l k).length = k := by simp [lns]
theorem ln_length {l : List UInt8} {i : Nat} (h : i ≤ nl l) : (ln l i).length = en l (sp l i) - sp l i := by
  unfold ln
  have h1 := sp_le h
  have h2 := en_le h1
  simp; omega

/-- a row of bytes, a row of lists -/
def brow (x : Value × List UInt8) : Rw := ⟨5, 1, x.1, x.2.length, bv x.2⟩
def vrow (v : Value) (D : List (Value × List UInt8)) : Rw := ⟨22, 1, v, D.length, D.map (·.1)⟩
/-- a list of lists and its lists, each in memory of its own -/
def spl (v : Value) (D : List (Value × List UInt8)) : List Rw := vrow v D :: D.map brow

theorem Tx.mid {w : World} {ao : Option Addr} {n c s e : Nat} {l : List UInt8} (h : Tx w ao (n - s) c (l.drop s)) (he : e ≤ n) (hs : s ≤ e) : Tx w ao (e - s) c ((l.drop s).take (e - s)) := h.head (by omega)
set_option maxRecDepth 8000 in
set_option maxHeartbeats 1000000 in
theorem split_some (a : Addr) (n c : Nat) (l : List UInt8) (w : World) (hn : n ≤ 4398046511104) (HT : Hid (Tx w (some a) n c l)) :
    Calls Tryd.prog 17 #[.slice (some a) n c] w fun e w' => ∃ v D, e = .returned v ∧ Rws w w' (spl v D) ∧ D.map (·.2) = lns l (nl l + 1) := by
  obtain ⟨i5, hi5, hz5, hs5, hb5⟩ := info_parts info5
  obtain ⟨i22, hi22, hz22, hs22, hb22⟩ := info_parts info22
  have hcap := HT.out.cap
  have hlen := Hid.mk' HT.out.len
  have hnl : nl l ≤ n := by have := nl_le l; rw [hlen.out] at this; exact this
  have hmk := fun W : World => run_make (P := Tryd.prog) W 48 22 i22 (.slice none 0 0) Tryd.underlying48 hi22 hz22 .i64 .i64 0 ((nl l : Int) + 1) (Int.le_refl _) (by omega) (by rw [hb22]; omega) (by omega)
  go_enter Tryd.func17, Tryd.ntmps17
  go_wp2_with (go_at_call 7; refine (count_any _ _ _ l _ HT).mono ?_; rintro e w1 ⟨rfl, hb1⟩)
  go_loopw [3, 4] (fun u v wr => ∃ (k s : Nat) (D : List (Value × List UInt8)), v = .int .i64 s ∧ St l k s ∧ D.length = k ∧ D.map (·.2) = lns l k ∧ Rws w wr (spl u D)) (fun _ v _ => n + 1 - (intOf v).toNat)
  case atStart =>
    refine ⟨0, 0, [], rfl, St.zero l, rfl, rfl, ?_⟩
    have h1 := ((Rws.nil w).keep hb1).new (bAlloc (Below.refl _ _) (.cells (madeCells (Value.slice none 0 0).cells (nl l + 1)) 22)) (World.ownsRow_made w1 _ (nl l + 1) (base := w1.heap.size) (e := 22) (size := 1) (Nat.le_refl _) (by unfold maxLen; omega) (by rw [size_madeCells, Nat.mul_one]))
    simpa [hs22, Value.cells, spl, vrow] using h1
  case round =>
    obtain ⟨k, s, D, rfl, hst, hD, hparts, hR⟩ := hrel
    have HS := Hid.mk' hst
    have HD := Hid.mk' hD
    have HP := Hid.mk' hparts
    have HR := Hid.mk' hR
    clear hst hD hparts hR hmk
    have hs : s ≤ n := by have := HS.out.low'; rw [hlen.out] at this; exact this
    have hsE := en_ge l s
    have hE : en l s ≤ n := by have := en_le HS.out.low'; rw [hlen.out] at this; exact this
    have T1 := Hid.mk' (HT.out.keep HR.out.bel)
    have C1 := Hid.mk' (endFrom_any _ n c s l wr hs T1)
    have HE : Hid (ln l k = (l.drop s).take (en l s - s)) := by unfold Hid ln; rw [sp_eq HS.out]
    have HN := Hid.mk' (fun h => HS.out.next (by rw [hlen.out]; exact h))
    have HL := Hid.mk' (fun h => HS.out.last (by rw [hlen.out]; exact h))
    have hk : k ≤ nl l := HS.out.low
    have hEn : (ln l k).length = en l s - s := by rw [ln_length hk, sp_eq HS.out]
    have HEL := Hid.mk' hEn
    obtain ⟨ax, cx, hu3⟩ := own_shape (HR.out.own 0 _ rfl)
    have hux : u3 = .slice ax k cx := by rw [← HD.out]; exact hu3
    subst hux
    clear hu3 hEn
    generalize en l s = E at *
    have hs' : (s : Int) ≤ E := by omega
    have hE' : (E : Int) ≤ n := by omega
    by_cases hcs : c = s
    · obtain rfl : n = s := by omega
      obtain rfl : E = n := by omega
      obtain rfl : c = E := hcs
      have SR : Hid (Srv wr (.slice (some a) 0 0) 0 (bv (ln l k))) := by
        unfold Hid; rw [HE.out]
        have := ((T1.out.tail0 hs rfl).mid hE hsE).srv
        simpa using this
      go_wp2_with (first | (go_at_call 35; refine C1.out.mono ?_; rintro e w' ⟨rfl, hw⟩; have hq := hw.symm; subst hq) | (at_builtin; refine append_srv rfl (.const (.slice none 0 0)) (.tmp 16) 22 rfl wr.heap.size 5 i5 (.int .u8 0) 1 1 Tryd.underlying22 hi5 hz5 hs5 hb5 rfl (by decide) (.slice none 0 0) 0 [] rfl (World.ownsRow_nil _ _ _ _) (.slice (some a) 0 0) (0) (bv (ln l k)) rfl SR.out ?q1 (bv_one _) ?q2 ?q3 (Nat.le_refl _) ?_))
      case q1 => rw [bv_length]; have := HEL.out; omega
      case q2 => unfold maxLen; omega
      case q3 => omega
      intro v1 w2 hown1 hgrow1 hfr1
      have e1 : (ln l k).length = 0 := by have := HEL.out; omega
      have hown1' : w2.ownsRow wr.heap.size 5 1 v1 (ln l k).length (bv (ln l k)) := by rw [e1]; simpa using hown1
      have HR2 : Hid (Rws w w2 (spl (.slice ax k cx) D ++ [brow (v1, ln l k)])) := HR.out.new ((Below.refl _ _).grown hgrow1 (Nat.le_refl _) (fun k hk => by simp [Value.ownBlock] at hk)) hown1'
      obtain ⟨a1, c1, ev1⟩ := own_shape hown1'
      subst ev1
      clear hown1' e1
      clear hown1 hgrow1 hfr1
      have HO : Hid (w2.ownsRow w.heap.size 22 1 (.slice ax k cx) k (D.map (·.1))) := by have := HR2.out.own 0 _ rfl; unfold Hid; simpa [spl, vrow, HD.out] using this
      go_wp2_with (at_builtin; refine append_srv rfl (.tmp 12) (.tmp 18) 48 rfl w.heap.size 22 i22 (.slice none 0 0) 1 24 Tryd.underlying48 hi22 hz22 hs22 hb22 rfl (by decide) (.slice ax k cx) k (D.map (·.1)) rfl (HO.out.alloc _) (.slice (some ⟨w2.heap.size, 0, none⟩) 1 1) 1 [(Value.slice a1 (ln l k).length c1)] rfl (.inr ⟨⟨w2.heap.size, 0, none⟩, 1, rfl, fun j t hj => lit_cells w2 _ 22 j t hj⟩) rfl ?r1 ?r2 ?r3 ?r4 ?_)
      case r1 => intro u hu; simp at hu; subst hu; rfl
      case r2 => unfold maxLen; omega
      case r3 => omega
      case r4 => have := HR2.out.bel.size; simp; omega
      intro v2 w3 hown2 hgrow2 hfr2
      have HR3 : Hid (Rws w w3 (spl v2 (D ++ [((Value.slice a1 (ln l k).length c1), ln l k)]))) := by
        have h1 := (HR2.out.alloc (.cells #[(Value.slice a1 (ln l k).length c1)] 22)).grow (i := 0) (r := vrow (.slice ax k cx) D) rfl hgrow2 hown2 (by rcases hfr2 with e | ⟨q, e, hq⟩; exact .inl e; exact .inr ⟨q, e, by simpa using hq⟩)
        have e3 : (spl (.slice ax k cx) D ++ [brow ((Value.slice a1 (ln l k).length c1), ln l k)]).set 0 ⟨22, 1, v2, k + 1, D.map (·.1) ++ [(Value.slice a1 (ln l k).length c1)]⟩ = spl v2 (D ++ [((Value.slice a1 (ln l k).length c1), ln l k)]) := by
          unfold spl vrow
          simp [HD.out]
        rw [e3] at h1
        exact h1
      have HP3 : Hid ((D ++ [((Value.slice a1 (ln l k).length c1), ln l k)]).map (·.2) = lns l (k + 1)) := by unfold Hid; rw [lns_succ, List.map_append, HP.out]; rfl
      have HD3 : Hid ((D ++ [((Value.slice a1 (ln l k).length c1), ln l k)]).length = k + 1) := by unfold Hid; simp [HD.out]
      clear hown2 hgrow2 hfr2 HR HR2 HO
      go_wp2
      go_ret
      exact ⟨v2, _, rfl, HR3.out, by rw [HP3.out, HL.out (by first | trivial | rfl)]⟩
    · have SR : Hid (Srv wr (.slice (some (a.add s)) (E - s) (c - s)) (E - s) (bv (ln l k))) := by
        unfold Hid; rw [HE.out]
        exact ((T1.out.tail hs).mid hE hsE).srv
      go_wp2_with (first | (go_at_call 35; refine C1.out.mono ?_; rintro e w' ⟨rfl, hw⟩; have hq := hw.symm; subst hq) | (at_builtin; refine append_srv rfl (.const (.slice none 0 0)) (.tmp 16) 22 rfl wr.heap.size 5 i5 (.int .u8 0) 1 1 Tryd.underlying22 hi5 hz5 hs5 hb5 rfl (by decide) (.slice none 0 0) 0 [] rfl (World.ownsRow_nil _ _ _ _) (.slice (some (a.add s)) (E - s) (c - s)) (E - s) (bv (ln l k)) rfl SR.out ?q1 (bv_one _) ?q2 ?q3 (Nat.le_refl _) ?_))
      case q1 => rw [bv_length]; have := HEL.out; omega
      case q2 => unfold maxLen; omega
      case q3 => omega
      intro v1 w2 hown1 hgrow1 hfr1
      have e1 : (ln l k).length = E - s := by have := HEL.out; omega
      have hown1' : w2.ownsRow wr.heap.size 5 1 v1 (ln l k).length (bv (ln l k)) := by rw [e1]; simpa using hown1
      have HR2 : Hid (Rws w w2 (spl (.slice ax k cx) D ++ [brow (v1, ln l k)])) := HR.out.new ((Below.refl _ _).grown hgrow1 (Nat.le_refl _) (fun k hk => by simp [Value.ownBlock] at hk)) hown1'
      obtain ⟨a1, c1, ev1⟩ := own_shape hown1'
      subst ev1
      clear hown1' e1
      clear hown1 hgrow1 hfr1
      have HO : Hid (w2.ownsRow w.heap.size 22 1 (.slice ax k cx) k (D.map (·.1))) := by have := HR2.out.own 0 _ rfl; unfold Hid; simpa [spl, vrow, HD.out] using this
      go_wp2_with (at_builtin; refine append_srv rfl (.tmp 12) (.tmp 18) 48 rfl w.heap.size 22 i22 (.slice none 0 0) 1 24 Tryd.underlying48 hi22 hz22 hs22 hb22 rfl (by decide) (.slice ax k cx) k (D.map (·.1)) rfl (HO.out.alloc _) (.slice (some ⟨w2.heap.size, 0, none⟩) 1 1) 1 [(Value.slice a1 (ln l k).length c1)] rfl (.inr ⟨⟨w2.heap.size, 0, none⟩, 1, rfl, fun j t hj => lit_cells w2 _ 22 j t hj⟩) rfl ?r1 ?r2 ?r3 ?r4 ?_)
      case r1 => intro u hu; simp at hu; subst hu; rfl
      case r2 => unfold maxLen; omega
      case r3 => omega
      case r4 => have := HR2.out.bel.size; simp; omega
      intro v2 w3 hown2 hgrow2 hfr2
      have HR3 : Hid (Rws w w3 (spl v2 (D ++ [((Value.slice a1 (ln l k).length c1), ln l k)]))) := by
        have h1 := (HR2.out.alloc (.cells #[(Value.slice a1 (ln l k).length c1)] 22)).grow (i := 0) (r := vrow (.slice ax k cx) D) rfl hgrow2 hown2 (by rcases hfr2 with e | ⟨q, e, hq⟩; exact .inl e; exact .inr ⟨q, e, by simpa using hq⟩)
        have e3 : (spl (.slice ax k cx) D ++ [brow ((Value.slice a1 (ln l k).length c1), ln l k)]).set 0 ⟨22, 1, v2, k + 1, D.map (·.1) ++ [(Value.slice a1 (ln l k).length c1)]⟩ = spl v2 (D ++ [((Value.slice a1 (ln l k).length c1), ln l k)]) := by
          unfold spl vrow
          simp [HD.out]
        rw [e3] at h1
        exact h1
      have HP3 : Hid ((D ++ [((Value.slice a1 (ln l k).length c1), ln l k)]).map (·.2) = lns l (k + 1)) := by unfold Hid; rw [lns_succ, List.map_append, HP.out]; rfl
      have HD3 : Hid ((D ++ [((Value.slice a1 (ln l k).length c1), ln l k)]).length = k + 1) := by unfold Hid; simp [HD.out]
      clear hown2 hgrow2 hfr2 HR HR2 HO
      by_cases hEn : E = n
      · subst hEn
        go_wp2
        go_ret
        have hlast : (D ++ [((Value.slice a1 (ln l k).length c1), ln l k)]).map (·.2) = lns l (nl l + 1) := by rw [HP3.out, HL.out (by first | trivial | rfl)]
        first | exact ⟨v2, _, rfl, HR3.out, hlast⟩ | exact ⟨v2, rfl, _, HR3.out, hlast⟩
      · have hEn' : ¬ (E : Int) = (n : Int) := by omega
        go_wp2
        go_roundw
        case rel => exact ⟨k + 1, E + 1, _, by go_num, HN.out (by omega), HD3.out, HP3.out, HR3.out⟩
        case measure => first | (simp [intOf]; done) | (simp [intOf]; omega)

theorem sp_nil (i : Nat) : sp [] i = 0 := rfl
set_option maxRecDepth 8000 in
set_option maxHeartbeats 1000000 in
theorem split_none (w : World) :
    Calls Tryd.prog 17 #[.slice none 0 0] w fun e w' => ∃ v D, e = .returned v ∧ Rws w w' (spl v D) ∧ D.map (·.2) = lns [] (nl [] + 1) := by
  obtain ⟨i22, hi22, hz22, hs22, hb22⟩ := info_parts info22
  have hmk := fun W : World => run_make (P := Tryd.prog) W 48 22 i22 (.slice none 0 0) Tryd.underlying48 hi22 hz22 .i64 .i64 0 1 (Int.le_refl _) (by omega) (by rw [hb22]; omega) (by omega)
  have hz : nl [] = 0 := rfl
  go_enter Tryd.func17, Tryd.ntmps17
  go_wp2_with (go_at_call 7; refine (count_any _ _ _ [] _ (tx_nil _)).mono ?_; rintro e w1 ⟨rfl, hb1⟩)
  go_loopw [3, 4] (fun u v wr => v = .int .i64 0 ∧ u = .slice (some ⟨w1.heap.size, 0, none⟩) 0 1 ∧ Rws w wr (spl u [])) (fun _ v _ => 0)
  case atStart =>
    refine ⟨rfl, rfl, ?_⟩
    have h1 := ((Rws.nil w).keep hb1).new (bAlloc (Below.refl _ _) (.cells (madeCells (Value.slice none 0 0).cells 1) 22)) (World.ownsRow_made w1 _ 1 (base := w1.heap.size) (e := 22) (size := 1) (Nat.le_refl _) (by unfold maxLen; omega) (by rw [size_madeCells]))
    simpa [hs22, Value.cells, spl, vrow] using h1
  case round =>
    obtain ⟨rfl, rfl, hR⟩ := hrel
    have HR := Hid.mk' hR
    clear hR hmk
    have HO : Hid (wr.ownsRow w.heap.size 22 1 (.slice (some ⟨w1.heap.size, 0, none⟩) 0 1) 0 []) := by have := HR.out.own 0 _ rfl; unfold Hid; simpa [spl, vrow] using this
    go_wp2_with (first | (go_at_call 35; refine (endFrom_any none 0 0 0 [] _ (Nat.le_refl _) (tx_nil _)).mono ?_; rintro e w' ⟨rfl, hw⟩; have hq := hw.symm; subst hq) | (at_builtin; refine append_srv rfl (.tmp 12) (.tmp 18) 48 rfl w.heap.size 22 i22 (.slice none 0 0) 1 24 Tryd.underlying48 hi22 hz22 hs22 hb22 rfl (by decide) (.slice (some ⟨w1.heap.size, 0, none⟩) 0 1) 0 [] rfl (HO.out.alloc _) (.slice (some ⟨wr.heap.size, 0, none⟩) 1 1) 1 [.slice none 0 0] rfl (.inr ⟨⟨wr.heap.size, 0, none⟩, 1, rfl, fun j t hj => lit_cells wr _ 22 j t hj⟩) rfl ?r1 ?r2 ?r3 ?r4 ?_))
    case r1 => intro u hu; simp at hu; subst hu; rfl
    case r2 => unfold maxLen; omega
    case r3 => omega
    case r4 => have := HR.out.bel.size; simp; omega
    intro v2 w3 hown2 hgrow2 hfr2
    have HR3 : Hid (Rws w w3 (spl v2 [(.slice none 0 0, [])])) := by
      have h0 := (HR.out.alloc (.cells #[.slice none 0 0] 22)).grow (i := 0) (r := vrow (.slice (some ⟨w1.heap.size, 0, none⟩) 0 1) []) rfl hgrow2 hown2 (by rcases hfr2 with e | ⟨q, e, hq⟩; exact .inl e; exact .inr ⟨q, e, by simpa using hq⟩)
      have h1 := h0.new (Below.refl _ _) (World.ownsRow_nil w3 w3.heap.size 5 1)
      exact h1
    clear hown2 hgrow2 hfr2 HR HO
    go_wp2
    go_ret
    first | exact ⟨v2, _, rfl, HR3.out, rfl⟩ | exact ⟨v2, rfl, _, HR3.out, rfl⟩

theorem split_any (ao : Option Addr) (n c : Nat) (l : List UInt8) (w : World) (hn : n ≤ 4398046511104) (HT : Hid (Tx w ao n c l)) :
    Calls Tryd.prog 17 #[.slice ao n c] w fun e w' => ∃ v D, e = .returned v ∧ Rws w w' (spl v D) ∧ D.map (·.2) = lns l (nl l + 1) := by
  cases ao with
  | none =>
    obtain ⟨rfl, rfl, rfl⟩ := HT.out.none
    exact split_none w
  | some a => exact split_some a n c l w hn HT
end Go.Proofs.YtppefcnopkmhbaaDoor

namespace Go.Proofs.YtppefcnopkmhbaaDoor
open Go.RowKit

theorem below_drewN (w : World) (n : Nat) : Below w.heap.size w (w.drewN n) := ⟨rfl, rfl, rfl, Nat.le_refl _, fun _ _ => rfl⟩
theorem conv_drew {W : World} {ao : Option Addr} {n c : Nat} {l : List UInt8} (h : Tx W ao n c l) : ∀ q, (convert 22 9 (.slice ao n c)).run Tryd.prog (W.drewN q) = .ok (.string ⟨l.toArray⟩) (W.drewN q) := fun q => conv_tx (h.keep (below_drewN W q))
theorem own_txl {W : World} {base n : Nat} {v : Value} {l : List UInt8} (h : W.ownsRow base 5 1 v n (bv l)) (hb : n ≤ 140737488355328) : ∃ ao c, v = .slice ao n c ∧ Tx W ao n c l := by
  have hl : l.length = n := by have := h.1; rw [bv_length] at this; omega
  rcases h.2 with ⟨rfl, rfl⟩ | ⟨g, cap, cur, rfl, h1, h2, h3, h4, h5, h6⟩
  · obtain rfl := List.eq_nil_of_length_eq_zero hl
    exact ⟨none, 0, rfl, tx_nil W⟩
  · refine ⟨_, cap, rfl, hl, h3, by omega, (fun h => by cases h), fun a ha j hj => ?_⟩
    obtain rfl : (⟨g, 0, none⟩ : Addr) = a := by simpa using ha
    rw [add_none, Nat.zero_add, h.cellAt j (by omega)]
    exact bv_at l j (by omega)

/-- what a list of lists holds at a place -/
structure Ls (W : World) (v : Value) (K : Nat) (f : Nat → List UInt8) : Prop where
  top : ∃ ao c, v = .slice ao K c
  each : ∀ i, i < K → ∃ g c ai ci, v = .slice (some ⟨g, 0, none⟩) K c ∧ W.cell? ⟨g, i, none⟩ = some (.slice ai (f i).length ci) ∧ Tx W ai (f i).length ci (f i)
theorem Ls.keep {W W' : World} {v : Value} {K : Nat} {f : Nat → List UInt8} (h : Ls W v K f) (hb : Below W.heap.size W W') : Ls W' v K f :=
  ⟨h.top, fun i hi => by
    obtain ⟨g, c, ai, ci, h1, h2, h3⟩ := h.each i hi
    exact ⟨g, c, ai, ci, h1, by rw [hb.cell (lt_of_cell h2)]; exact h2, h3.keep hb⟩⟩
theorem ls_of {w W : World} {v : Value} {D : List (Value × List UInt8)} {R : List Rw} {K : Nat} {f : Nat → List UInt8} (i0 : Nat) (h : Rws w W R) (hR : ∀ j, j ≤ D.length → R[i0 + j]? = (spl v D)[j]?) (hD : D.map (·.2) = (List.range K).map f) (hb : ∀ i, i < K → (f i).length ≤ 140737488355328) : Ls W v K f := by
  have hK : D.length = K := by have := congrArg List.length hD; simpa using this
  have h0 : R[i0]? = some (vrow v D) := by have := hR 0 (Nat.zero_le _); simpa [spl] using this
  have o0 := h.own _ _ h0
  refine ⟨?_, fun i hi => ?_⟩
  · obtain ⟨ao, c, e⟩ := own_shape o0
    exact ⟨ao, c, by rw [← hK]; exact e⟩
  · have hi' : i < D.length := by omega
    have h1 : R[i0 + (i + 1)]? = some (brow D[i]) := by rw [hR (i + 1) (by omega)]; simp [spl, hi']
    have o1 := h.own _ _ h1
    have e2 : D[i].2 = f i := by
      have := congrArg (fun L => L[i]?) hD
      simpa [hi', hi] using this
    have o1' : W.ownsRow w.heap.size 5 1 D[i].1 (f i).length (bv (f i)) := by rw [← e2]; exact o1
    obtain ⟨ai, ci, e3, h3⟩ := own_txl o1' (hb i hi)
    have o0' : W.ownsRow w.heap.size 22 1 v D.length (D.map (·.1)) := o0
    rcases o0'.2 with ⟨_, hz⟩ | ⟨g, cap, cur, e4, _⟩
    · omega
    · have hc : W.cell? ⟨g, i, none⟩ = some (.slice ai (f i).length ci) := by
        have hv : W.ownsRow w.heap.size 22 1 (.slice (some ⟨g, 0, none⟩) D.length cap) D.length (D.map (·.1)) := by rw [← e4]; exact o0'
        rw [hv.cellAt i (by omega), List.getElem?_map, List.getElem?_eq_getElem hi', ← e3]; rfl
      exact ⟨g, cap, ai, ci, by rw [← hK]; exact e4, hc, h3⟩

/-- the text up to the end of line number i - 1 -/
def jl (l : List UInt8) : Nat → List UInt8
  | 0 => []
  | i + 1 => l.take (en l (sp l i))
theorem sp_next {l : List UInt8} {i : Nat} (h : i + 1 ≤ nl l) : en l (sp l i) < l.length ∧ sp l (i + 1) = en l (sp l i) + 1 := by
  have hs := sp_st (t := l) (n := i) (by omega)
  have he : en l (sp l i) < l.length := by
    rcases Nat.lt_or_ge (en l (sp l i)) l.length with h1 | h1
    · exact h1
    · have := hs.last (by have := en_le hs.low'; omega); omega
  exact ⟨he, sp_eq (hs.next he)⟩
theorem jl_next {l : List UInt8} {i : Nat} (h : i ≤ nl l) : l.take (sp l i) ++ ln l i = jl l (i + 1) := by
  have h1 := en_ge l (sp l i)
  have h2 := sp_le h
  unfold ln jl
  rw [← List.take_add]
  congr 1; omega
theorem jl_end {l : List UInt8} {i : Nat} (h : i + 1 ≤ nl l) : jl l (i + 1) ++ [10] = l.take (sp l (i + 1)) := by
  obtain ⟨h1, h2⟩ := sp_next h
  unfold jl
  have h3 := en_edge (t := l) (s := sp l i) h1
  rw [le_ten, at8_eq h1] at h3
  rw [h2, List.take_succ_eq_append_getElem h1, eq_of_beq h3]
theorem jl_all (l : List UInt8) : jl l (nl l + 1) = l := by
  have hs := sp_st (t := l) (n := nl l) (Nat.le_refl _)
  show l.take (en l (sp l (nl l))) = l
  have he : en l (sp l (nl l)) = l.length := by
    rcases Nat.lt_or_ge (en l (sp l (nl l))) l.length with h1 | h1
    · have := (hs.next h1).low; omega
    · have := en_le hs.low'; omega
  rw [he, List.take_length]
theorem sp_zero (l : List UInt8) : sp l 0 = 0 := sp_eq (St.zero l)
end Go.Proofs.YtppefcnopkmhbaaDoor

namespace Go.Proofs.YtppefcnopkmhbaaDoor
open Go.RowKit

theorem bset {w W : World} (h : Below w.heap.size w W) {a : Addr} (v : Value) (ha : w.heap.size ≤ a.block) : Below w.heap.size w (W.setCell a v) := h.setCell ha v
/-- a range and an error -/
structure Rg where
  F : Int
  T : Int
  L : Bool
  D : Bool
  E : Int
/-- as a call gives it -/
def rt (r : Rg) : Ending := .returned (.tuple #[.agg #[.int .i64 r.F, .int .i64 r.T, .bool r.L, .bool r.D], .int .i64 r.E])
/-- refused -/
def rno : Rg := ⟨0, 0, false, false, 2⟩
/-- the range of lines -/
def whY (l : List UInt8) (s e : Nat) : Rg := if e < l.length then ⟨s, e + 1, true, false, 0⟩ else if 0 < s then ⟨s - 1, e, true, true, 0⟩ else ⟨s, e, true, false, 0⟩
def wh (l : List UInt8) (f t : Int) : Rg := if lnB l f && lnB l t && decide (f ≤ t) then whY l (sp l f.toNat) (en l (sp l t.toNat)) else rno
theorem ln_at {l : List UInt8} {k : Nat} (h : k ≤ nl l) : lnB l (k : Int) = true := decide_eq_true (by omega)

set_option maxRecDepth 8000
/-- is it one of the three kinds -/
def kdB (k : Int) : Bool := decide (k = 1 ∨ k = 2 ∨ k = 3)
/-- the number of an operator, 0 of none -/
def onl (t : List UInt8) : Nat := if t == [100] then 1 else if t == [99] then 2 else if t == [121] then 3 else if t == [103, 126] then 4 else if t == [103, 117] then 5 else if t == [103, 85] then 6 else if t == [62] then 7 else if t == [60] then 8 else 0
def opn (s : ByteArray) : Nat := onl s.toList
theorem op_rules (s : ByteArray) (k : Nat) (h : opn s = k) : (s.toList == [100]) = (k == 1) ∧ (s.toList == [99]) = (k == 2) ∧ (s.toList == [121]) = (k == 3) ∧ (s.toList == [103, 126]) = (k == 4) ∧ (s.toList == [103, 117]) = (k == 5) ∧ (s.toList == [103, 85]) = (k == 6) ∧ (s.toList == [62]) = (k == 7) ∧ (s.toList == [60]) = (k == 8) := by
  unfold opn at h
  generalize s.toList = t at *
  unfold onl at h
  by_cases ht : t ∈ [[100], [99], [121], [103, 126], [103, 117], [103, 85], [62], [60]]
  · simp only [List.mem_cons, List.not_mem_nil, or_false] at ht
    rcases ht with rfl | rfl | rfl | rfl | rfl | rfl | rfl | rfl <;> (subst h; decide)
  · simp only [List.mem_cons, List.not_mem_nil, or_false, not_or] at ht
    obtain ⟨h1, h2, h3, h4, h5, h6, h7, h8⟩ := ht
    simp only [beq_false_of_ne h1, beq_false_of_ne h2, beq_false_of_ne h3, beq_false_of_ne h4, beq_false_of_ne h5, beq_false_of_ne h6, beq_false_of_ne h7, beq_false_of_ne h8, Bool.false_eq_true, if_false] at h
    subst h
    exact ⟨beq_false_of_ne h1, beq_false_of_ne h2, beq_false_of_ne h3, beq_false_of_ne h4, beq_false_of_ne h5, beq_false_of_ne h6, beq_false_of_ne h7, beq_false_of_ne h8⟩
theorem ite_le8 {c : Prop} [Decidable c] {a b : Nat} (ha : a ≤ 8) (hb : b ≤ 8) : (if c then a else b) ≤ 8 := by split <;> assumption
theorem opn_le (s : ByteArray) : opn s ≤ 8 := by
  unfold opn onl
  repeat (refine ite_le8 (by omega) ?_)
  omega
/-- does it move lines to the right or the left -/
def shB (k : Nat) : Bool := k == 7 || k == 8
/-- is it an operator -/
def opB (k : Nat) : Bool := k != 0
theorem opn_cases {k : Nat} (h : k ≤ 8) : k = 0 ∨ k = 1 ∨ k = 2 ∨ k = 3 ∨ k = 4 ∨ k = 5 ∨ k = 6 ∨ k = 7 ∨ k = 8 := by omega
/-- is the byte at a place a line end -/
def leB (l : List UInt8) (i : Int) : Bool := decide (0 ≤ i ∧ i < l.length) && le (at8 l i.toNat)
set_option maxHeartbeats 1000000 in
theorem isLE_any (ao : Option Addr) (n c : Nat) (i : Int) (l : List UInt8) (w : World) (HT : Hid (Tx w ao n c l)) :
    Calls Tryd.prog 81 #[.slice ao n c, .int .i64 i] w fun e w' => e = .returned (.bool (leB l i)) ∧ w' = w := by
  have hlen := HT.out.len
  by_cases h0 : 0 ≤ i
  · by_cases h1 : i < n
    · obtain ⟨k, rfl⟩ := Int.eq_ofNat_of_zero_le h0
      obtain ⟨g, o, rfl, hc⟩ := HT.out.at (by omega)
      have hc0 := hc k (by omega)
      have hd : leB l (k : Int) = le (at8 l k) := by unfold leB; rw [decide_eq_true (by omega)]; rfl
      have hD := Hid.mk' hd
      clear hc hd hlen
      cases hb : le (at8 l k) with
      | true =>
        have h10 : (((at8 l k).toNat : Int) == 10) = true := hb
        rw [hb] at hD
        clear hb
        go_enter Tryd.func81, Tryd.ntmps81
        go_wp2
        go_ret
        exact ⟨by rw [hD.out]; rfl, rfl⟩
      | false =>
        have h10 : (((at8 l k).toNat : Int) == 10) = false := hb
        rw [hb] at hD
        clear hb
        go_enter Tryd.func81, Tryd.ntmps81
        go_wp2
        go_ret
        exact ⟨by rw [hD.out]; rfl, rfl⟩
    · have hd := Hid.mk' (show leB l i = false by unfold leB; rw [decide_eq_false (by omega)]; rfl)
      clear hlen
      go_enter Tryd.func81, Tryd.ntmps81
      go_wp2
      go_ret
      exact ⟨by rw [hd.out]; rfl, rfl⟩
  · have hd := Hid.mk' (show leB l i = false by unfold leB; rw [decide_eq_false (by omega)]; rfl)
    clear hlen
    go_enter Tryd.func81, Tryd.ntmps81
    go_wp2
    go_ret
    exact ⟨by rw [hd.out]; rfl, rfl⟩

end Go.Proofs.YtppefcnopkmhbaaDoor

namespace Go.Proofs.YtppefcnopkmhbaaDoor
open Go.RowKit

set_option maxRecDepth 8000
set_option maxHeartbeats 400000 in
theorem lastByte_any (s e : Nat) (w : World) (h : s ≤ e) (hb : (e : Int) ≤ 150000000000000) :
    Calls Tryd.prog 87 #[.int .i64 s, .int .i64 e] w fun x w' => x = .returned (.int .i64 (lb s e)) ∧ w' = w := by
  have hm : Hid ((max (s : Int) (e - 1)) = (lb s e : Int)) := by unfold Hid lb; omega
  go_enter Tryd.func87, Tryd.ntmps87
  go_wp2
  all_goals go_ret
  all_goals refine ⟨?_, rfl⟩
  all_goals (have hm := hm.out; first | (rw [← hm]; rfl) | (simp; omega) | skip)
set_option maxHeartbeats 400000 in
theorem isBlank_any (b : UInt8) (w : World) : Calls Tryd.prog 86 #[.int .u8 (b.toNat : Int)] w fun x w' => x = .returned (.bool (bl b)) ∧ w' = w := by
  have HB : Hid (bl b = (((b.toNat : Int) == 32) || ((b.toNat : Int) == 9))) := rfl
  generalize bl b = r at *
  generalize (b.toNat : Int) = z at *
  by_cases h1 : z = 32
  · subst h1
    go_enter Tryd.func86, Tryd.ntmps86
    go_wp2
    go_ret
    exact ⟨by rw [HB.out]; rfl, rfl⟩
  · by_cases h2 : z = 9
    · subst h2
      go_enter Tryd.func86, Tryd.ntmps86
      go_wp2
      go_ret
      exact ⟨by rw [HB.out]; rfl, rfl⟩
    · have e1 : (z == 32) = false := by simpa using h1
      have e2 : (z == 9) = false := by simpa using h2
      have HC : Hid (r = false) := by unfold Hid; rw [HB.out, e1, e2]; rfl
      clear HB
      go_enter Tryd.func86, Tryd.ntmps86
      go_wp2
      go_ret
      exact ⟨by rw [HC.out]; rfl, rfl⟩
set_option maxHeartbeats 1000000 in
theorem lat_any (ao : Option Addr) (n c : Nat) (L C : Int) (l : List UInt8) (w : World) (h63 : L ≤ 9223372036854775807) (hC : C ≤ 9223372036854775807) (HT : Hid (Tx w ao n c l)) :
    Calls Tryd.prog 83 #[.slice ao n c, .int .i64 L, .int .i64 C] w fun e w' => e = pr (aAt l L C) ∧ w' = w := by
  cases hb : lnB l L with
  | true =>
    obtain ⟨k, rfl, hk⟩ := ln_yes hb
    by_cases hlow : C < -1
    · have HA : Hid (pr (aAt l (k : Int) C) = .returned (.tuple #[.int .i64 0, .int .i64 2])) := by
        unfold Hid pr aAt ans
        rw [hb, decide_eq_false (show ¬ (-1 ≤ C) by omega)]; rfl
      clear hb
      go_enter Tryd.func83, Tryd.ntmps83
      go_wp2_with (go_at_call 32; refine (startOf_yes ao n c k l _ hk HT).mono ?_; rintro e w' ⟨rfl, hw⟩; subst hw)
      go_ret2
      exact ⟨by rw [HA.out]; rfl, rfl⟩
    · have HA : Hid (pr (aAt l (k : Int) C) = .returned (.tuple #[.int .i64 (pc (sp l k) (en l (sp l k)) C), .int .i64 0])) := by
        unfold Hid pr aAt ans
        rw [hb, decide_eq_true (show -1 ≤ C by omega)]; rfl
      have hs : sp l k ≤ n := by have := sp_le hk; rw [HT.out.len] at this; exact this
      have he : en l (sp l k) ≤ n := by have := en_le (sp_le hk); rw [HT.out.len] at this; exact this
      have hse := en_ge l (sp l k)
      have hbig : (n : Int) ≤ 150000000000000 := by have := HT.out.big; omega
      have C1 := startOf_yes ao n c k l w hk HT
      have C2 := endFrom_any ao n c (sp l k) l w hs HT
      generalize en l (sp l k) = E at *
      generalize sp l k = S at *
      have hE : (E : Int) ≤ 150000000000000 := by omega
      have hSE : (S : Int) ≤ (E : Int) := by omega
      have hS0 : (0 : Int) ≤ (S : Int) := by omega
      have C1 := Hid.mk' C1
      have C2 := Hid.mk' C2
      clear hb
      by_cases hin : 0 ≤ C ∧ C < (E : Int) - S
      · obtain ⟨j, rfl⟩ := Int.eq_ofNat_of_zero_le hin.1
        have HP : Hid (pc S E (j : Int) = S + j) := by unfold Hid pc; rw [if_pos hin]; simp
        have hin1 := hin.1
        have hin2 := hin.2
        clear hin
        go_enter Tryd.func83, Tryd.ntmps83
        go_wp2_with (first | (go_at_call 32; refine C1.out.mono ?_; rintro e w' ⟨rfl, hw⟩; subst hw) | (go_at_call 35; refine C2.out.mono ?_; rintro e w' ⟨rfl, hw⟩; subst hw))
        go_ret2
        refine ⟨?_, rfl⟩
        rw [HA.out, HP.out]
        push_cast
        rfl
      · have HP : Hid (pc S E C = lb S E) := by unfold Hid pc; rw [if_neg hin]
        have hC1 : -1 ≤ C := by omega
        by_cases h0 : 0 ≤ C
        · have h1 : (E : Int) - S ≤ C := by omega
          clear hin
          go_enter Tryd.func83, Tryd.ntmps83
          go_wp2_with (first | (go_at_call 32; refine C1.out.mono ?_; rintro e w' ⟨rfl, hw⟩; subst hw) | (go_at_call 35; refine C2.out.mono ?_; rintro e w' ⟨rfl, hw⟩; subst hw) | (go_at_call 87; refine (lastByte_any S E _ hse hE).mono ?_; rintro e w' ⟨rfl, hw⟩; subst hw))
          go_ret2
          refine ⟨?_, rfl⟩
          rw [HA.out, HP.out]
          rfl
        · have h1 : C < 0 := by omega
          clear hin h0
          go_enter Tryd.func83, Tryd.ntmps83
          go_wp2_with (first | (go_at_call 32; refine C1.out.mono ?_; rintro e w' ⟨rfl, hw⟩; subst hw) | (go_at_call 35; refine C2.out.mono ?_; rintro e w' ⟨rfl, hw⟩; subst hw) | (go_at_call 87; refine (lastByte_any S E _ hse hE).mono ?_; rintro e w' ⟨rfl, hw⟩; subst hw))
          go_ret2
          refine ⟨?_, rfl⟩
          rw [HA.out, HP.out]
          rfl
  | false =>
    have HA : Hid (pr (aAt l L C) = .returned (.tuple #[.int .i64 0, .int .i64 2])) := by unfold Hid pr aAt ans; rw [hb]; rfl
    have hn : Hid (L < 0 ∨ (nl l : Int) < L) := ln_no hb
    clear hb
    go_enter Tryd.func83, Tryd.ntmps83
    go_wp2_with (go_at_call 32; refine (startOf_no ao n c L l _ h63 hn.out HT).mono ?_; rintro e w' ⟨rfl, hw⟩; subst hw)
    go_ret2
    exact ⟨by rw [HA.out]; rfl, rfl⟩
set_option maxHeartbeats 1000000 in
theorem lfirst_any (ao : Option Addr) (n c : Nat) (L : Int) (l : List UInt8) (w : World) (h63 : L ≤ 9223372036854775807) (HT : Hid (Tx w ao n c l)) :
    Calls Tryd.prog 74 #[.slice ao n c, .int .i64 L] w fun e w' => e = pr (aFirst l L) ∧ w' = w := by
  cases hb : lnB l L with
  | true =>
    obtain ⟨k, rfl, hk⟩ := ln_yes hb
    have HA : Hid (pr (aFirst l (k : Int)) = .returned (.tuple #[.int .i64 (fb l (lb (sp l k) (en l (sp l k))) (en l (sp l k) - sp l k) (sp l k)), .int .i64 0])) := by unfold Hid pr aFirst ans; rw [hb]; rfl
    have hs : sp l k ≤ n := by have := sp_le hk; rw [HT.out.len] at this; exact this
    have he : en l (sp l k) ≤ n := by have := en_le (sp_le hk); rw [HT.out.len] at this; exact this
    have hse := en_ge l (sp l k)
    have hbig : (n : Int) ≤ 150000000000000 := by have := HT.out.big; omega
    have C1 := startOf_yes ao n c k l w hk HT
    have C2 := endFrom_any ao n c (sp l k) l w hs HT
    generalize en l (sp l k) = E at *
    generalize sp l k = S at *
    have hE : (E : Int) ≤ 150000000000000 := by omega
    have C1 := Hid.mk' C1
    have C2 := Hid.mk' C2
    clear hb
    go_enter Tryd.func74, Tryd.ntmps74
    go_wp2_with (first | (go_at_call 32; refine C1.out.mono ?_; rintro e w' ⟨rfl, hw⟩; have hq := hw.symm; subst hq) | (go_at_call 35; refine C2.out.mono ?_; rintro e w' ⟨rfl, hw⟩; have hq := hw.symm; subst hq))
    go_loopw [9] (fun u wr => ∃ i : Nat, u = .int .i64 i ∧ S ≤ i ∧ i ≤ E ∧ fb l (lb S E) (E - S) S = fb l (lb S E) (E - i) i ∧ wr = w) (fun u _ => E - (intOf u).toNat)
    case atStart => exact ⟨S, rfl, Nat.le_refl _, hse, rfl, by first | rfl | trivial⟩
    case round =>
      obtain ⟨i, rfl, hSi, hiE, hfb, hw0⟩ := hrel
      have HF : Hid (fb l (lb S E) (E - S) S = fb l (lb S E) (E - i) i) := hfb
      clear hfb
      by_cases hlt : i < E
      · obtain ⟨g, o, rfl, hc⟩ := HT.out.at (by omega)
        have hc0 := hc i (by omega)
        have hi0 : (0 : Int) ≤ (i : Int) := by omega
        have hin : (i : Int) < (n : Int) := by omega
        have hiE' : (i : Int) < (E : Int) := by omega
        clear hc
        cases hbl : bl (at8 l i) with
        | true =>
          have HN : Hid (fb l (lb S E) (E - i) i = fb l (lb S E) (E - (i + 1)) (i + 1)) := by
            unfold Hid
            rw [show E - i = (E - (i + 1)) + 1 from by omega]
            conv => lhs; unfold fb
            rw [if_pos hbl]
          go_wp2_with (go_at_call 86; refine (isBlank_any (at8 l i) _).mono ?_; rintro e w' ⟨rfl, hw⟩; have hq := hw.symm; subst hq; rw [hbl])
          go_roundw
          case rel => exact ⟨i + 1, by go_num, by omega, by omega, by rw [HF.out, HN.out], by first | trivial | exact hw0⟩
          case measure => first | (simp [intOf]; done) | (simp [intOf]; omega)
        | false =>
          have HN : Hid (fb l (lb S E) (E - i) i = i) := by
            unfold Hid
            rw [show E - i = (E - (i + 1)) + 1 from by omega]
            conv => lhs; unfold fb
            rw [if_neg (by rw [hbl]; simp)]
          go_wp2_with (go_at_call 86; refine (isBlank_any (at8 l i) _).mono ?_; rintro e w' ⟨rfl, hw⟩; have hq := hw.symm; subst hq; rw [hbl])
          go_ret2
          exact ⟨by rw [HA.out, HF.out, HN.out]; rfl, by first | trivial | exact hw0⟩
      · obtain rfl : i = E := by omega
        have HN : Hid (fb l (lb S i) (i - i) i = lb S i) := by unfold Hid; rw [Nat.sub_self]; rfl
        go_wp2_with (go_at_call 87; refine (lastByte_any S i _ hse hE).mono ?_; rintro e w' ⟨rfl, hw⟩; have hq := hw.symm; subst hq)
        go_ret2
        exact ⟨by rw [HA.out, HF.out, HN.out]; rfl, by first | trivial | exact hw0⟩
  | false =>
    have HA : Hid (pr (aFirst l L) = .returned (.tuple #[.int .i64 0, .int .i64 2])) := by unfold Hid pr aFirst ans; rw [hb]; rfl
    have hn : Hid (L < 0 ∨ (nl l : Int) < L) := ln_no hb
    clear hb
    go_enter Tryd.func74, Tryd.ntmps74
    go_wp2_with (go_at_call 32; refine (startOf_no ao n c L l _ h63 hn.out HT).mono ?_; rintro e w' ⟨rfl, hw⟩; have hq := hw.symm; subst hq)
    go_ret2
    exact ⟨by rw [HA.out]; rfl, rfl⟩
end Go.Proofs.YtppefcnopkmhbaaDoor

namespace Go.Proofs.YtppefcnopkmhbaaDoor
open Go.RowKit

theorem next_quarter {need old : Nat} (h : old < need) : Builtin.nextslicecap need old ≤ need + need / 4 + 256 := by
  unfold Builtin.nextslicecap
  split
  · omega
  · split
    · omega
    · rw [growBy_four]
      repeat' split
      all_goals omega

/-- append of whatever bytes there are, to a list that is owned -/
theorem append_big {w : World} {ops : Array Oper} {rest : List Oper} {o : Oper} {a : Act} {Q : Exit → Act → World → Prop} (hgd : o.guard = none) (s x : Operand)
    (ho : o.op = .call { callee := .builtin .append, args := #[s, x], argTypes := #[22, 22] }) (base : Nat)
    (v : Value) (n : Nat) (xs : List Value) (hs : a.eval s = v) (hown : w.ownsRow base 5 1 v n xs)
    (u : Value) (m : Nat) (news : List Value) (hx : a.eval x = u) (hsrc : Srv w u m news) (hl : news.length = m)
    (h1 : ∀ u ∈ news, u.oneCell' = true) (hb : n + m ≤ 150000000000000) (hm : m ≤ 140737488355328) (hbase : base ≤ w.heap.size)
    (h : ∀ v' w', w'.ownsRow base 5 1 v' (n + m) (xs ++ news) → w.grownBy w' v.ownBlock → (v'.ownBlock = v.ownBlock ∨ ∃ q, v'.ownBlock = some q ∧ w.heap.size ≤ q) → wpList Tryd.prog ops Q rest (a.put o.dst v') w') :
    wpList Tryd.prog ops Q (o :: rest) a w := by
  obtain ⟨i5, hi5, hz5, hs5, hb5⟩ := info_parts info5
  by_cases hsm : n + m ≤ 140737488355328
  · exact append_srv hgd s x 22 ho base 5 i5 (.int .u8 0) 1 1 Tryd.underlying22 hi5 hz5 hs5 hb5 rfl (by decide) v n xs hs hown u m news hx hsrc (by omega) h1 (by unfold maxLen; omega) (by omega) hbase h
  · have hx0 := hown.1
    rcases hsrc with ⟨hu, h0, h2⟩ | ⟨ad, c, hu, hcell⟩
    · subst hu h0 h2
      refine wpList_plain hgd fun K hK => ?_
      have hrun := run_append_owned_none (P := Tryd.prog) (w := w) base 22 o.type 5 i5 1 Tryd.underlying22 hi5 v n xs hown
      unfold Oper.wp
      simp [execOp, ho, resolve, invoke, builtin, hs, hx, hrun, Result.andThen]
      exact hK _ _ (h v w (by simpa using hown) ⟨rfl, rfl, rfl, Nat.le_refl _, fun _ _ _ => rfl⟩ (.inl rfl))
    · subst hu
      rcases hown.2 with ⟨hv, hn0⟩ | ⟨g, cap, cur, hv, hbg, hg, hnc, hcm, hcs, htake⟩
      · omega
      · subst hv
        by_cases hroom : n + m ≤ cap
        · refine wpList_append_fits w hgd s x 22 ho base 5 i5 1 Tryd.underlying22 hi5 hs5 g n cap xs hs hown ad m c news hx (by omega) hcell h1 hroom ?_
          intro w' h2 h3
          exact h _ w' h2 h3 (.inl rfl)
        · refine wpList_plain hgd fun K hK => ?_
          have hcells : ∀ j t, xs[j]? = some t → w.cell? ((⟨g, 0, none⟩ : Addr).add j) = some t := hown.cells rfl
          have hq := next_quarter (show cap < n + m by omega)
          have hr := run_append_grow (P := Tryd.prog) w 22 o.type 5 i5 (.int .u8 0) Tryd.underlying22 hi5 hz5 ⟨g, 0, none⟩ n cap xs (by rw [hs5]; omega) hcells ad m c news (by rw [hs5]; omega) hcell (by omega) (by omega) (by rw [hb5]; omega)
          have hge := grownCap_ge w (n + m) cap 5
          have hcm2 := grownCap_le_maxLen w (n + m) cap 5 (by unfold maxLen; omega)
          unfold Oper.wp execOp
          simp only [ho, resolve, invoke, builtin, Sem.run_bind, Sem.run_pure, Result.andThen_ok, List.map_toArray, List.map_cons, List.map_nil, hs, hx, hr]
          refine hK _ _ (h _ _ ⟨by simp; omega, .inr ⟨w.heap.size, _, _, rfl, hbase, heap_alloc_new w.drew _, hge, hcm2, ?_, ?_⟩⟩ ⟨rfl, rfl, rfl, by simp, fun k hk _ => heap_alloc_old w.drew _ hk⟩ (.inr ⟨w.heap.size, rfl, Nat.le_refl _⟩))
          · simp only [Array.size_append, List.size_toArray, size_zeroCells, Value.cells, hl]
            simp; omega
          · simp only [Array.toList_append, List.append_assoc]
            rw [← List.append_assoc]
            exact List.take_left' (by simp; omega)
end Go.Proofs.YtppefcnopkmhbaaDoor
