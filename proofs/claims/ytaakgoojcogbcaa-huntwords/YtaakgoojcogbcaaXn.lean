/- The contract of lines.Split: the lines of a text, each in memory of its own. -/
import Derived.Test.YtaakgoojcogbcaaRws
import Derived.Test.YtaakgoojcogbcaaXm
import Derived.Test.YtaakgoojcogbcaaLent
import Derived.Laws.MakeOwn
import Derived.Lib.BufferRead
namespace Go.Proofs.Ytaakgoojcogbcaa
open Go.RowKit

theorem info22 : (Try.prog.info? 22).map (fun i => (i.zero, i.size, i.bytes)) = some (some (.slice none 0 0), 1, 24) := by kernel_rfl

/-- line number i -/
def ln (l : List UInt8) (i : Nat) : List UInt8 := (l.drop (sp l i)).take (en l (sp l i) - sp l i)
/-- the first k lines -/
def lns (l : List UInt8) (k : Nat) : List (List UInt8) := (List.range k).map (ln l)
theorem lns_succ (l : List UInt8) (k : Nat) : lns l (k + 1) = lns l k ++ [ln l k] := by unfold lns; rw [List.range_succ, List.map_append]; rfl
theorem lns_length (l : List UInt8) (k : Nat) : (lns l k).length = k := by simp [lns]
theorem ln_length {l : List UInt8} {i : Nat} (h : i ≤ nl l) : (ln l i).length = en l (sp l i) - sp l i := by
  unfold ln
  have h1 := sp_le h
  have h2 := en_le h1
  simp; omega

/-- a row of bytes, a row of lists -/
def brow (x : Value × List UInt8) : Rw := ⟨5, 1, x.1, x.2.length, bv x.2⟩
def vrow (v : Value) (D : List (Value × List UInt8)) : Rw := ⟨22, 1, v, D.length, D.map (·.1)⟩
/-- a list of lists and its lists, each in memory of its own -/
def spl (v : Value) (D : List (Value × List UInt8)) : List Rw := vrow v D :: D.map brow

theorem Tx.mid {w : World} {ao : Option Addr} {n c s e : Nat} {l : List UInt8} (h : Tx w ao (n - s) c (l.drop s)) (he : e ≤ n) (hs : s ≤ e) : Tx w ao (e - s) c ((l.drop s).take (e - s)) := h.head (by omega)
set_option maxRecDepth 8000 in
set_option maxHeartbeats 1000000 in
theorem split_some (a : Addr) (n c : Nat) (l : List UInt8) (w : World) (hn : n ≤ 4398046511104) (HT : Hid (Tx w (some a) n c l)) :
    Calls Try.prog 26 #[.slice (some a) n c] w fun e w' => ∃ v D, e = .returned v ∧ Rws w w' (spl v D) ∧ D.map (·.2) = lns l (nl l + 1) := by
  obtain ⟨i5, hi5, hz5, hs5, hb5⟩ := info_parts info5
  obtain ⟨i22, hi22, hz22, hs22, hb22⟩ := info_parts info22
  have hcap := HT.out.cap
  have hlen := Hid.mk' HT.out.len
  have hnl : nl l ≤ n := by have := nl_le l; rw [hlen.out] at this; exact this
  have hmk := fun W : World => run_make (P := Try.prog) W 57 22 i22 (.slice none 0 0) Try.underlying57 hi22 hz22 .i64 .i64 0 ((nl l : Int) + 1) (Int.le_refl _) (by omega) (by rw [hb22]; omega) (by omega)
  go_enter Try.func26, Try.ntmps26
  go_wp2_with (go_at_call 46; refine (count_any _ _ _ l _ HT).mono ?_; rintro e w1 ⟨rfl, hb1⟩)
  go_loopw [3, 4] (fun u v wr => ∃ (k s : Nat) (D : List (Value × List UInt8)), v = .int .i64 s ∧ St l k s ∧ D.length = k ∧ D.map (·.2) = lns l k ∧ Rws w wr (spl u D)) (fun _ v _ => n + 1 - (intOf v).toNat)
  case atStart =>
    refine ⟨0, 0, [], rfl, St.zero l, rfl, rfl, ?_⟩
    have h1 := ((Rws.nil w).keep hb1).new (bAlloc (Below.refl _ _) (.cells (madeCells (Value.slice none 0 0).cells (nl l + 1)) 22)) (World.ownsRow_made w1 _ (nl l + 1) (base := w1.heap.size) (e := 22) (size := 1) (Nat.le_refl _) (by unfold maxLen; omega) (by rw [size_madeCells, Nat.mul_one]))
    simpa [hs22, Value.cells, spl, vrow] using h1
  case round =>
    obtain ⟨k, s, D, rfl, hst, hD, hparts, hR⟩ := hrel
    have HS := Hid.mk' hst
    have HD := Hid.mk' hD
    have HP := Hid.mk' hparts
    have HR := Hid.mk' hR
    clear hst hD hparts hR hmk
    have hs : s ≤ n := by have := HS.out.low'; rw [hlen.out] at this; exact this
    have hsE := en_ge l s
    have hE : en l s ≤ n := by have := en_le HS.out.low'; rw [hlen.out] at this; exact this
    have T1 := Hid.mk' (HT.out.keep HR.out.bel)
    have C1 := Hid.mk' (endFrom_any _ n c s l wr hs T1)
    have HE : Hid (ln l k = (l.drop s).take (en l s - s)) := by unfold Hid ln; rw [sp_eq HS.out]
    have HN := Hid.mk' (fun h => HS.out.next (by rw [hlen.out]; exact h))
    have HL := Hid.mk' (fun h => HS.out.last (by rw [hlen.out]; exact h))
    have hk : k ≤ nl l := HS.out.low
    have hEn : (ln l k).length = en l s - s := by rw [ln_length hk, sp_eq HS.out]
    have HEL := Hid.mk' hEn
    obtain ⟨ax, cx, hu3⟩ := own_shape (HR.out.own 0 _ rfl)
    have hux : u3 = .slice ax k cx := by rw [← HD.out]; exact hu3
    subst hux
    clear hu3 hEn
    generalize en l s = E at *
    have hs' : (s : Int) ≤ E := by omega
    have hE' : (E : Int) ≤ n := by omega
    by_cases hcs : c = s
    · obtain rfl : n = s := by omega
      obtain rfl : E = n := by omega
      obtain rfl : c = E := hcs
      have SR : Hid (Srv wr (.slice (some a) 0 0) 0 (bv (ln l k))) := by
        unfold Hid; rw [HE.out]
        have := ((T1.out.tail0 hs rfl).mid hE hsE).srv
        simpa using this
      go_wp2_with (first | (go_at_call 47; refine C1.out.mono ?_; rintro e w' ⟨rfl, hw⟩; have hq := hw.symm; subst hq) | (at_builtin; refine append_srv rfl (.const (.slice none 0 0)) (.tmp 16) 22 rfl wr.heap.size 5 i5 (.int .u8 0) 1 1 Try.underlying22 hi5 hz5 hs5 hb5 rfl (by decide) (.slice none 0 0) 0 [] rfl (World.ownsRow_nil _ _ _ _) (.slice (some a) 0 0) (0) (bv (ln l k)) rfl SR.out ?q1 (bv_one _) ?q2 ?q3 (Nat.le_refl _) ?_))
      case q1 => rw [bv_length]; have := HEL.out; omega
      case q2 => unfold maxLen; omega
      case q3 => omega
      intro v1 w2 hown1 hgrow1 hfr1
      have e1 : (ln l k).length = 0 := by have := HEL.out; omega
      have hown1' : w2.ownsRow wr.heap.size 5 1 v1 (ln l k).length (bv (ln l k)) := by rw [e1]; simpa using hown1
      have HR2 : Hid (Rws w w2 (spl (.slice ax k cx) D ++ [brow (v1, ln l k)])) := HR.out.new ((Below.refl _ _).grown hgrow1 (Nat.le_refl _) (fun k hk => by simp [Value.ownBlock] at hk)) hown1'
      obtain ⟨a1, c1, ev1⟩ := own_shape hown1'
      subst ev1
      clear hown1' e1
      clear hown1 hgrow1 hfr1
      have HO : Hid (w2.ownsRow w.heap.size 22 1 (.slice ax k cx) k (D.map (·.1))) := by have := HR2.out.own 0 _ rfl; unfold Hid; simpa [spl, vrow, HD.out] using this
      go_wp2_with (at_builtin; refine append_srv rfl (.tmp 12) (.tmp 18) 57 rfl w.heap.size 22 i22 (.slice none 0 0) 1 24 Try.underlying57 hi22 hz22 hs22 hb22 rfl (by decide) (.slice ax k cx) k (D.map (·.1)) rfl (HO.out.alloc _) (.slice (some ⟨w2.heap.size, 0, none⟩) 1 1) 1 [(Value.slice a1 (ln l k).length c1)] rfl (.inr ⟨⟨w2.heap.size, 0, none⟩, 1, rfl, fun j t hj => lit_cells w2 _ 22 j t hj⟩) rfl ?r1 ?r2 ?r3 ?r4 ?_)
      case r1 => intro u hu; simp at hu; subst hu; rfl
      case r2 => unfold maxLen; omega
      case r3 => omega
      case r4 => have := HR2.out.bel.size; simp; omega
      intro v2 w3 hown2 hgrow2 hfr2
      have HR3 : Hid (Rws w w3 (spl v2 (D ++ [((Value.slice a1 (ln l k).length c1), ln l k)]))) := by
        have h1 := (HR2.out.alloc (.cells #[(Value.slice a1 (ln l k).length c1)] 22)).grow (i := 0) (r := vrow (.slice ax k cx) D) rfl hgrow2 hown2 (by rcases hfr2 with e | ⟨q, e, hq⟩; exact .inl e; exact .inr ⟨q, e, by simpa using hq⟩)
        have e3 : (spl (.slice ax k cx) D ++ [brow ((Value.slice a1 (ln l k).length c1), ln l k)]).set 0 ⟨22, 1, v2, k + 1, D.map (·.1) ++ [(Value.slice a1 (ln l k).length c1)]⟩ = spl v2 (D ++ [((Value.slice a1 (ln l k).length c1), ln l k)]) := by
          unfold spl vrow
          simp [HD.out]
        rw [e3] at h1
        exact h1
      have HP3 : Hid ((D ++ [((Value.slice a1 (ln l k).length c1), ln l k)]).map (·.2) = lns l (k + 1)) := by unfold Hid; rw [lns_succ, List.map_append, HP.out]; rfl
      have HD3 : Hid ((D ++ [((Value.slice a1 (ln l k).length c1), ln l k)]).length = k + 1) := by unfold Hid; simp [HD.out]
      clear hown2 hgrow2 hfr2 HR HR2 HO
      go_wp2
      go_ret
      exact ⟨v2, _, rfl, HR3.out, by rw [HP3.out, HL.out (by first | trivial | rfl)]⟩
    · have SR : Hid (Srv wr (.slice (some (a.add s)) (E - s) (c - s)) (E - s) (bv (ln l k))) := by
        unfold Hid; rw [HE.out]
        exact ((T1.out.tail hs).mid hE hsE).srv
      go_wp2_with (first | (go_at_call 47; refine C1.out.mono ?_; rintro e w' ⟨rfl, hw⟩; have hq := hw.symm; subst hq) | (at_builtin; refine append_srv rfl (.const (.slice none 0 0)) (.tmp 16) 22 rfl wr.heap.size 5 i5 (.int .u8 0) 1 1 Try.underlying22 hi5 hz5 hs5 hb5 rfl (by decide) (.slice none 0 0) 0 [] rfl (World.ownsRow_nil _ _ _ _) (.slice (some (a.add s)) (E - s) (c - s)) (E - s) (bv (ln l k)) rfl SR.out ?q1 (bv_one _) ?q2 ?q3 (Nat.le_refl _) ?_))
      case q1 => rw [bv_length]; have := HEL.out; omega
      case q2 => unfold maxLen; omega
      case q3 => omega
      intro v1 w2 hown1 hgrow1 hfr1
      have e1 : (ln l k).length = E - s := by have := HEL.out; omega
      have hown1' : w2.ownsRow wr.heap.size 5 1 v1 (ln l k).length (bv (ln l k)) := by rw [e1]; simpa using hown1
      have HR2 : Hid (Rws w w2 (spl (.slice ax k cx) D ++ [brow (v1, ln l k)])) := HR.out.new ((Below.refl _ _).grown hgrow1 (Nat.le_refl _) (fun k hk => by simp [Value.ownBlock] at hk)) hown1'
      obtain ⟨a1, c1, ev1⟩ := own_shape hown1'
      subst ev1
      clear hown1' e1
      clear hown1 hgrow1 hfr1
      have HO : Hid (w2.ownsRow w.heap.size 22 1 (.slice ax k cx) k (D.map (·.1))) := by have := HR2.out.own 0 _ rfl; unfold Hid; simpa [spl, vrow, HD.out] using this
      go_wp2_with (at_builtin; refine append_srv rfl (.tmp 12) (.tmp 18) 57 rfl w.heap.size 22 i22 (.slice none 0 0) 1 24 Try.underlying57 hi22 hz22 hs22 hb22 rfl (by decide) (.slice ax k cx) k (D.map (·.1)) rfl (HO.out.alloc _) (.slice (some ⟨w2.heap.size, 0, none⟩) 1 1) 1 [(Value.slice a1 (ln l k).length c1)] rfl (.inr ⟨⟨w2.heap.size, 0, none⟩, 1, rfl, fun j t hj => lit_cells w2 _ 22 j t hj⟩) rfl ?r1 ?r2 ?r3 ?r4 ?_)
      case r1 => intro u hu; simp at hu; subst hu; rfl
      case r2 => unfold maxLen; omega
      case r3 => omega
      case r4 => have := HR2.out.bel.size; simp; omega
      intro v2 w3 hown2 hgrow2 hfr2
      have HR3 : Hid (Rws w w3 (spl v2 (D ++ [((Value.slice a1 (ln l k).length c1), ln l k)]))) := by
        have h1 := (HR2.out.alloc (.cells #[(Value.slice a1 (ln l k).length c1)] 22)).grow (i := 0) (r := vrow (.slice ax k cx) D) rfl hgrow2 hown2 (by rcases hfr2 with e | ⟨q, e, hq⟩; exact .inl e; exact .inr ⟨q, e, by simpa using hq⟩)
        have e3 : (spl (.slice ax k cx) D ++ [brow ((Value.slice a1 (ln l k).length c1), ln l k)]).set 0 ⟨22, 1, v2, k + 1, D.map (·.1) ++ [(Value.slice a1 (ln l k).length c1)]⟩ = spl v2 (D ++ [((Value.slice a1 (ln l k).length c1), ln l k)]) := by
          unfold spl vrow
          simp [HD.out]
        rw [e3] at h1
        exact h1
      have HP3 : Hid ((D ++ [((Value.slice a1 (ln l k).length c1), ln l k)]).map (·.2) = lns l (k + 1)) := by unfold Hid; rw [lns_succ, List.map_append, HP.out]; rfl
      have HD3 : Hid ((D ++ [((Value.slice a1 (ln l k).length c1), ln l k)]).length = k + 1) := by unfold Hid; simp [HD.out]
      clear hown2 hgrow2 hfr2 HR HR2 HO
      by_cases hEn : E = n
      · subst hEn
        go_wp2
        go_ret
        have hlast : (D ++ [((Value.slice a1 (ln l k).length c1), ln l k)]).map (·.2) = lns l (nl l + 1) := by rw [HP3.out, HL.out (by first | trivial | rfl)]
        first | exact ⟨v2, _, rfl, HR3.out, hlast⟩ | exact ⟨v2, rfl, _, HR3.out, hlast⟩
      · have hEn' : ¬ (E : Int) = (n : Int) := by omega
        go_wp2
        go_roundw
        case rel => exact ⟨k + 1, E + 1, _, by go_num, HN.out (by omega), HD3.out, HP3.out, HR3.out⟩
        case measure => first | (simp [intOf]; done) | (simp [intOf]; omega)

theorem sp_nil (i : Nat) : sp [] i = 0 := rfl
set_option maxRecDepth 8000 in
set_option maxHeartbeats 1000000 in
theorem split_none (w : World) :
    Calls Try.prog 26 #[.slice none 0 0] w fun e w' => ∃ v D, e = .returned v ∧ Rws w w' (spl v D) ∧ D.map (·.2) = lns [] (nl [] + 1) := by
  obtain ⟨i22, hi22, hz22, hs22, hb22⟩ := info_parts info22
  have hmk := fun W : World => run_make (P := Try.prog) W 57 22 i22 (.slice none 0 0) Try.underlying57 hi22 hz22 .i64 .i64 0 1 (Int.le_refl _) (by omega) (by rw [hb22]; omega) (by omega)
  have hz : nl [] = 0 := rfl
  go_enter Try.func26, Try.ntmps26
  go_wp2_with (go_at_call 46; refine (count_any _ _ _ [] _ (tx_nil _)).mono ?_; rintro e w1 ⟨rfl, hb1⟩)
  go_loopw [3, 4] (fun u v wr => v = .int .i64 0 ∧ u = .slice (some ⟨w1.heap.size, 0, none⟩) 0 1 ∧ Rws w wr (spl u [])) (fun _ v _ => 0)
  case atStart =>
    refine ⟨rfl, rfl, ?_⟩
    have h1 := ((Rws.nil w).keep hb1).new (bAlloc (Below.refl _ _) (.cells (madeCells (Value.slice none 0 0).cells 1) 22)) (World.ownsRow_made w1 _ 1 (base := w1.heap.size) (e := 22) (size := 1) (Nat.le_refl _) (by unfold maxLen; omega) (by rw [size_madeCells]))
    simpa [hs22, Value.cells, spl, vrow] using h1
  case round =>
    obtain ⟨rfl, rfl, hR⟩ := hrel
    have HR := Hid.mk' hR
    clear hR hmk
    have HO : Hid (wr.ownsRow w.heap.size 22 1 (.slice (some ⟨w1.heap.size, 0, none⟩) 0 1) 0 []) := by have := HR.out.own 0 _ rfl; unfold Hid; simpa [spl, vrow] using this
    go_wp2_with (first | (go_at_call 47; refine (endFrom_any none 0 0 0 [] _ (Nat.le_refl _) (tx_nil _)).mono ?_; rintro e w' ⟨rfl, hw⟩; have hq := hw.symm; subst hq) | (at_builtin; refine append_srv rfl (.tmp 12) (.tmp 18) 57 rfl w.heap.size 22 i22 (.slice none 0 0) 1 24 Try.underlying57 hi22 hz22 hs22 hb22 rfl (by decide) (.slice (some ⟨w1.heap.size, 0, none⟩) 0 1) 0 [] rfl (HO.out.alloc _) (.slice (some ⟨wr.heap.size, 0, none⟩) 1 1) 1 [.slice none 0 0] rfl (.inr ⟨⟨wr.heap.size, 0, none⟩, 1, rfl, fun j t hj => lit_cells wr _ 22 j t hj⟩) rfl ?r1 ?r2 ?r3 ?r4 ?_))
    case r1 => intro u hu; simp at hu; subst hu; rfl
    case r2 => unfold maxLen; omega
    case r3 => omega
    case r4 => have := HR.out.bel.size; simp; omega
    intro v2 w3 hown2 hgrow2 hfr2
    have HR3 : Hid (Rws w w3 (spl v2 [(.slice none 0 0, [])])) := by
      have h0 := (HR.out.alloc (.cells #[.slice none 0 0] 22)).grow (i := 0) (r := vrow (.slice (some ⟨w1.heap.size, 0, none⟩) 0 1) []) rfl hgrow2 hown2 (by rcases hfr2 with e | ⟨q, e, hq⟩; exact .inl e; exact .inr ⟨q, e, by simpa using hq⟩)
      have h1 := h0.new (Below.refl _ _) (World.ownsRow_nil w3 w3.heap.size 5 1)
      exact h1
    clear hown2 hgrow2 hfr2 HR HO
    go_wp2
    go_ret
    first | exact ⟨v2, _, rfl, HR3.out, rfl⟩ | exact ⟨v2, rfl, _, HR3.out, rfl⟩

theorem split_any (ao : Option Addr) (n c : Nat) (l : List UInt8) (w : World) (hn : n ≤ 4398046511104) (HT : Hid (Tx w ao n c l)) :
    Calls Try.prog 26 #[.slice ao n c] w fun e w' => ∃ v D, e = .returned v ∧ Rws w w' (spl v D) ∧ D.map (·.2) = lns l (nl l + 1) := by
  cases ao with
  | none =>
    obtain ⟨rfl, rfl, rfl⟩ := HT.out.none
    exact split_none w
  | some a => exact split_some a n c l w hn HT
end Go.Proofs.Ytaakgoojcogbcaa
/- Lists of lists in memory: what Split gives, read again; the lines put together are the text. -/
namespace Go.Proofs.Ytaakgoojcogbcaa
open Go.RowKit

theorem below_drewN (w : World) (n : Nat) : Below w.heap.size w (w.drewN n) := ⟨rfl, rfl, rfl, Nat.le_refl _, fun _ _ => rfl⟩
theorem conv_drew {W : World} {ao : Option Addr} {n c : Nat} {l : List UInt8} (h : Tx W ao n c l) : ∀ q, (convert 22 9 (.slice ao n c)).run Try.prog (W.drewN q) = .ok (.string ⟨l.toArray⟩) (W.drewN q) := fun q => conv_tx (h.keep (below_drewN W q))
theorem own_txl {W : World} {base n : Nat} {v : Value} {l : List UInt8} (h : W.ownsRow base 5 1 v n (bv l)) (hb : n ≤ 140737488355328) : ∃ ao c, v = .slice ao n c ∧ Tx W ao n c l := by
  have hl : l.length = n := by have := h.1; rw [bv_length] at this; omega
  rcases h.2 with ⟨rfl, rfl⟩ | ⟨g, cap, cur, rfl, h1, h2, h3, h4, h5, h6⟩
  · obtain rfl := List.eq_nil_of_length_eq_zero hl
    exact ⟨none, 0, rfl, tx_nil W⟩
  · refine ⟨_, cap, rfl, hl, h3, hb, (fun h => by cases h), fun a ha j hj => ?_⟩
    obtain rfl : (⟨g, 0, none⟩ : Addr) = a := by simpa using ha
    rw [add_none, Nat.zero_add, h.cellAt j (by omega)]
    exact bv_at l j (by omega)

/-- what a list of lists holds at a place -/
structure Ls (W : World) (v : Value) (K : Nat) (f : Nat → List UInt8) : Prop where
  top : ∃ ao c, v = .slice ao K c
  each : ∀ i, i < K → ∃ g c ai ci, v = .slice (some ⟨g, 0, none⟩) K c ∧ W.cell? ⟨g, i, none⟩ = some (.slice ai (f i).length ci) ∧ Tx W ai (f i).length ci (f i)
theorem Ls.keep {W W' : World} {v : Value} {K : Nat} {f : Nat → List UInt8} (h : Ls W v K f) (hb : Below W.heap.size W W') : Ls W' v K f :=
  ⟨h.top, fun i hi => by
    obtain ⟨g, c, ai, ci, h1, h2, h3⟩ := h.each i hi
    exact ⟨g, c, ai, ci, h1, by rw [hb.cell (lt_of_cell h2)]; exact h2, h3.keep hb⟩⟩
theorem ls_of {w W : World} {v : Value} {D : List (Value × List UInt8)} {R : List Rw} {K : Nat} {f : Nat → List UInt8} (i0 : Nat) (h : Rws w W R) (hR : ∀ j, j ≤ D.length → R[i0 + j]? = (spl v D)[j]?) (hD : D.map (·.2) = (List.range K).map f) (hb : ∀ i, i < K → (f i).length ≤ 140737488355328) : Ls W v K f := by
  have hK : D.length = K := by have := congrArg List.length hD; simpa using this
  have h0 : R[i0]? = some (vrow v D) := by have := hR 0 (Nat.zero_le _); simpa [spl] using this
  have o0 := h.own _ _ h0
  refine ⟨?_, fun i hi => ?_⟩
  · obtain ⟨ao, c, e⟩ := own_shape o0
    exact ⟨ao, c, by rw [← hK]; exact e⟩
  · have hi' : i < D.length := by omega
    have h1 : R[i0 + (i + 1)]? = some (brow D[i]) := by rw [hR (i + 1) (by omega)]; simp [spl, hi']
    have o1 := h.own _ _ h1
    have e2 : D[i].2 = f i := by
      have := congrArg (fun L => L[i]?) hD
      simpa [hi', hi] using this
    have o1' : W.ownsRow w.heap.size 5 1 D[i].1 (f i).length (bv (f i)) := by rw [← e2]; exact o1
    obtain ⟨ai, ci, e3, h3⟩ := own_txl o1' (hb i hi)
    have o0' : W.ownsRow w.heap.size 22 1 v D.length (D.map (·.1)) := o0
    rcases o0'.2 with ⟨_, hz⟩ | ⟨g, cap, cur, e4, _⟩
    · omega
    · have hc : W.cell? ⟨g, i, none⟩ = some (.slice ai (f i).length ci) := by
        have hv : W.ownsRow w.heap.size 22 1 (.slice (some ⟨g, 0, none⟩) D.length cap) D.length (D.map (·.1)) := by rw [← e4]; exact o0'
        rw [hv.cellAt i (by omega), List.getElem?_map, List.getElem?_eq_getElem hi', ← e3]; rfl
      exact ⟨g, cap, ai, ci, by rw [← hK]; exact e4, hc, h3⟩

/-- the text up to the end of line number i - 1 -/
def jl (l : List UInt8) : Nat → List UInt8
  | 0 => []
  | i + 1 => l.take (en l (sp l i))
theorem sp_next {l : List UInt8} {i : Nat} (h : i + 1 ≤ nl l) : en l (sp l i) < l.length ∧ sp l (i + 1) = en l (sp l i) + 1 := by
  have hs := sp_st (t := l) (n := i) (by omega)
  have he : en l (sp l i) < l.length := by
    rcases Nat.lt_or_ge (en l (sp l i)) l.length with h1 | h1
    · exact h1
    · have := hs.last (by have := en_le hs.low'; omega); omega
  exact ⟨he, sp_eq (hs.next he)⟩
theorem jl_next {l : List UInt8} {i : Nat} (h : i ≤ nl l) : l.take (sp l i) ++ ln l i = jl l (i + 1) := by
  have h1 := en_ge l (sp l i)
  have h2 := sp_le h
  unfold ln jl
  rw [← List.take_add]
  congr 1; omega
theorem jl_end {l : List UInt8} {i : Nat} (h : i + 1 ≤ nl l) : jl l (i + 1) ++ [10] = l.take (sp l (i + 1)) := by
  obtain ⟨h1, h2⟩ := sp_next h
  unfold jl
  have h3 := en_edge (t := l) (s := sp l i) h1
  rw [le_ten, at8_eq h1] at h3
  rw [h2, List.take_succ_eq_append_getElem h1, eq_of_beq h3]
theorem jl_all (l : List UInt8) : jl l (nl l + 1) = l := by
  have hs := sp_st (t := l) (n := nl l) (Nat.le_refl _)
  show l.take (en l (sp l (nl l))) = l
  have he : en l (sp l (nl l)) = l.length := by
    rcases Nat.lt_or_ge (en l (sp l (nl l))) l.length with h1 | h1
    · have := (hs.next h1).low; omega
    · have := en_le hs.low'; omega
  rw [he, List.take_length]
theorem sp_zero (l : List UInt8) : sp l 0 = 0 := sp_eq (St.zero l)
end Go.Proofs.Ytaakgoojcogbcaa
/- The contract of quoinref05.Split: the lines of a text, each in memory of its own. -/
namespace Go.Proofs.Ytaakgoojcogbcaa
open Go.RowKit

set_option maxHeartbeats 2000000 in
theorem refSplit_any (ao : Option Addr) (n c : Nat) (l : List UInt8) (w : World) (hn : n ≤ 4398046511104) (HT : Hid (Tx w ao n c l)) :
    Calls Try.prog 67 #[.slice ao n c] w fun e w' => ∃ v D, e = .returned v ∧ Rws w w' (spl v D) ∧ D.map (·.2) = lns l (nl l + 1) := by
  obtain ⟨i5, hi5, hz5, hs5, hb5⟩ := info_parts info5
  obtain ⟨i22, hi22, hz22, hs22, hb22⟩ := info_parts info22
  have hcap := HT.out.cap
  have hlen := Hid.mk' HT.out.len
  have hnl : nl l ≤ n := by have := nl_le l; rw [hlen.out] at this; exact this
  go_enter Try.func67, Try.ntmps67
  go_wp2_with fail
  go_loopw [3, 4, 5] (fun u x y wr => (∃ (k s i : Nat) (D : List (Value × List UInt8)), x = .int .i64 s ∧ y = .int .i64 i ∧ s ≤ i ∧ i ≤ n ∧ St l k s ∧ (∀ j, s ≤ j → j < i → le (at8 l j) = false) ∧ D.length = k ∧ D.map (·.2) = lns l k ∧ Rws w wr (spl u D)) ∨ (∃ D, y = .int .i64 ((n : Int) + 1) ∧ D.map (·.2) = lns l (nl l + 1) ∧ Rws w wr (spl u D))) (fun _ _ y _ => n + 1 - (intOf y).toNat)
  case atStart => exact .inl ⟨0, 0, 0, [], rfl, rfl, Nat.le_refl _, Nat.zero_le _, St.zero l, fun j h1 h2 => by omega, rfl, rfl, (Rws.nil w).new (Below.refl _ _) (World.ownsRow_nil _ _ _ _)⟩
  case round =>
    rcases hrel with ⟨k, s, i, D, rfl, rfl, hsi, hin, hst, hno, hD, hparts, hR⟩ | ⟨D, rfl, hD, hR⟩
    · have HS := Hid.mk' hst
      have HNo := Hid.mk' hno
      have HD := Hid.mk' hD
      have HP := Hid.mk' hparts
      have HR := Hid.mk' hR
      clear hst hno hD hparts hR
      have T1 := Hid.mk' (HT.out.keep HR.out.bel)
      have hk : k ≤ nl l := HS.out.low
      obtain ⟨ax, cx, hu3⟩ := own_shape (HR.out.own 0 _ rfl)
      have hux : u3 = .slice ax k cx := by rw [← HD.out]; exact hu3
      subst hux
      clear hu3
      have hi0 : (0 : Int) ≤ (i : Int) := by omega
      have hsi' : (s : Int) ≤ (i : Int) := by omega
      have hin' : (i : Int) ≤ (n : Int) := by omega
      have hbig : (n : Int) ≤ 4398046511104 := by omega
      have hic : (i : Int) ≤ (c : Int) := by omega
      have hs0 : (0 : Int) ≤ (s : Int) := by omega
      by_cases hstop : i = n ∨ le (at8 l i) = true
      · have HE : Hid (en l s = i) := en_eq hsi (by rw [hlen.out]; exact hin) HNo.out (by rw [hlen.out]; exact hstop)
        have HLD : Hid (ln l k = (l.drop s).take (i - s)) := by unfold Hid ln; rw [sp_eq HS.out, HE.out]
        have HEL : Hid ((ln l k).length = i - s) := by unfold Hid; rw [ln_length hk, sp_eq HS.out, HE.out]
        have HN : Hid (i < n → St l (k + 1) (i + 1)) := fun h => by have := HS.out.next (by rw [HE.out, hlen.out]; exact h); rwa [HE.out] at this
        have HLS : Hid (i = n → nl l = k) := fun h => HS.out.last (by rw [HE.out, hlen.out]; exact h)
        have hs : s ≤ n := by omega
        cases ao with
        | none =>
          obtain rfl : n = 0 := T1.out.none.1
          obtain rfl : c = 0 := T1.out.none.2.1
          obtain rfl : i = 0 := by omega
          obtain rfl : s = 0 := by omega
          have SR : Hid (Srv wr (.slice none 0 0) 0 (bv (ln l k))) := by
            unfold Hid; rw [HLD.out]
            have := (T1.out.head (i := 0) (Nat.le_refl _)).srv
            simpa using this
          clear hstop
          go_wp2_with (at_builtin; refine append_srv rfl (.tmp 24) (.tmp 28) 22 rfl wr.heap.size 5 i5 (.int .u8 0) 1 1 Try.underlying22 hi5 hz5 hs5 hb5 rfl (by decide) (.slice (some ⟨wr.heap.size, 0, none⟩) 0 0) 0 [] rfl (World.ownsRow_made wr #[] 0 (Nat.le_refl _) (by decide) rfl) (.slice none 0 0) (0) (bv (ln l k)) rfl (SR.out.keep (bAlloc (Below.refl _ _) _)) (by rw [bv_length]; have := HEL.out; omega) (bv_one _) (by unfold maxLen; omega) (by omega) (by simp) ?_)
          intro v1 w2 hown1 hgrow1 hfr1
          have e1 : (ln l k).length = 0 := by have := HEL.out; omega
          have hown1' : w2.ownsRow wr.heap.size 5 1 v1 (ln l k).length (bv (ln l k)) := by rw [e1]; simpa using hown1
          have hbel1 : Below wr.heap.size wr w2 := (bAlloc (Below.refl _ _) _).grown hgrow1 (by simp) (fun k hk => by simp [Value.ownBlock] at hk; omega)
          have HR2 : Hid (Rws w w2 (spl (.slice ax k cx) D ++ [brow (v1, ln l k)])) := HR.out.new hbel1 hown1'
          obtain ⟨a1, c1, ev1⟩ := own_shape hown1'
          subst ev1
          clear hown1' e1 hbel1
          clear hown1 hgrow1 hfr1
          have HO : Hid (w2.ownsRow w.heap.size 22 1 (.slice ax k cx) k (D.map (·.1))) := by have := HR2.out.own 0 _ rfl; unfold Hid; simpa [spl, vrow, HD.out] using this
          go_wp2_with (at_builtin; refine append_srv rfl (.tmp 30) (.tmp 32) 57 rfl w.heap.size 22 i22 (.slice none 0 0) 1 24 Try.underlying57 hi22 hz22 hs22 hb22 rfl (by decide) (.slice ax k cx) k (D.map (·.1)) rfl (HO.out.alloc _) (.slice (some ⟨w2.heap.size, 0, none⟩) 1 1) 1 [(Value.slice a1 (ln l k).length c1)] rfl (.inr ⟨⟨w2.heap.size, 0, none⟩, 1, rfl, fun j t hj => lit_cells w2 _ 22 j t hj⟩) rfl ?r1 ?r2 ?r3 ?r4 ?_)
          case r1 => intro u hu; simp at hu; subst hu; rfl
          case r2 => unfold maxLen; omega
          case r3 => omega
          case r4 => have := HR2.out.bel.size; simp; omega
          intro v2 w3 hown2 hgrow2 hfr2
          have HR3 : Hid (Rws w w3 (spl v2 (D ++ [((Value.slice a1 (ln l k).length c1), ln l k)]))) := by
            have h1 := (HR2.out.alloc (.cells #[(Value.slice a1 (ln l k).length c1)] 22)).grow (i := 0) (r := vrow (.slice ax k cx) D) rfl hgrow2 hown2 (by rcases hfr2 with e | ⟨q, e, hq⟩; exact .inl e; exact .inr ⟨q, e, by simpa using hq⟩)
            have e3 : (spl (.slice ax k cx) D ++ [brow ((Value.slice a1 (ln l k).length c1), ln l k)]).set 0 ⟨22, 1, v2, k + 1, D.map (·.1) ++ [(Value.slice a1 (ln l k).length c1)]⟩ = spl v2 (D ++ [((Value.slice a1 (ln l k).length c1), ln l k)]) := by
              unfold spl vrow
              simp [HD.out]
            rw [e3] at h1
            exact h1
          have HP3 : Hid ((D ++ [((Value.slice a1 (ln l k).length c1), ln l k)]).map (·.2) = lns l (k + 1)) := by unfold Hid; rw [lns_succ, List.map_append, HP.out]; rfl
          have HD3 : Hid ((D ++ [((Value.slice a1 (ln l k).length c1), ln l k)]).length = k + 1) := by unfold Hid; simp [HD.out]
          clear hown2 hgrow2 hfr2 HR HR2 HO
          go_wp2
          go_roundw
          case rel => first | exact .inl ⟨k + 1, i + 1, i + 1, _, by go_num, by go_num, by omega, by omega, HN.out (by omega), fun j h1 h2 => by omega, HD3.out, HP3.out, HR3.out⟩ | exact .inr ⟨_, by go_num, by rw [HP3.out, HLS.out (by first | trivial | rfl | omega)], HR3.out⟩
          case measure => first | (simp [intOf]; done) | (simp [intOf]; omega)
        | some a =>
          by_cases hlt : i < n
          · obtain ⟨g, o, hao, hc⟩ := T1.out.at (by omega)
            have hc0 := hc i hlt
            have e0 : a = ⟨g, o, none⟩ := by simpa using hao
            subst e0
            clear hao hc
            have h10 : (((at8 l i).toNat : Int) == 10) = true := by rcases hstop with h | h; omega; exact h
            have hin2 : (i : Int) < (n : Int) := by omega
            have hin3 : ((i : Int) == (n : Int)) = false := by rw [beq_eq_false_iff_ne]; omega
            have hcs : ¬ c = s := by omega
            have SR : Hid (Srv wr (.slice (some ((⟨g, o, none⟩ : Addr).add s)) (i - s) (c - s)) (i - s) (bv (ln l k))) := by
              unfold Hid; rw [HLD.out]
              exact ((T1.out.tail hs).mid hin hsi).srv
            rw [add_none] at SR
            clear hstop
            go_wp2_with (at_builtin; refine append_srv rfl (.tmp 24) (.tmp 28) 22 rfl wr.heap.size 5 i5 (.int .u8 0) 1 1 Try.underlying22 hi5 hz5 hs5 hb5 rfl (by decide) (.slice (some ⟨wr.heap.size, 0, none⟩) 0 0) 0 [] rfl (World.ownsRow_made wr #[] 0 (Nat.le_refl _) (by decide) rfl) (.slice (some ⟨g, o + s, none⟩) (i - s) (c - s)) (i - s) (bv (ln l k)) rfl (SR.out.keep (bAlloc (Below.refl _ _) _)) (by rw [bv_length]; have := HEL.out; omega) (bv_one _) (by unfold maxLen; omega) (by omega) (by simp) ?_)
            intro v1 w2 hown1 hgrow1 hfr1
            have e1 : (ln l k).length = i - s := by have := HEL.out; omega
            have hown1' : w2.ownsRow wr.heap.size 5 1 v1 (ln l k).length (bv (ln l k)) := by rw [e1]; simpa using hown1
            have hbel1 : Below wr.heap.size wr w2 := (bAlloc (Below.refl _ _) _).grown hgrow1 (by simp) (fun k hk => by simp [Value.ownBlock] at hk; omega)
            have HR2 : Hid (Rws w w2 (spl (.slice ax k cx) D ++ [brow (v1, ln l k)])) := HR.out.new hbel1 hown1'
            obtain ⟨a1, c1, ev1⟩ := own_shape hown1'
            subst ev1
            clear hown1' e1 hbel1
            clear hown1 hgrow1 hfr1
            have HO : Hid (w2.ownsRow w.heap.size 22 1 (.slice ax k cx) k (D.map (·.1))) := by have := HR2.out.own 0 _ rfl; unfold Hid; simpa [spl, vrow, HD.out] using this
            go_wp2_with (at_builtin; refine append_srv rfl (.tmp 30) (.tmp 32) 57 rfl w.heap.size 22 i22 (.slice none 0 0) 1 24 Try.underlying57 hi22 hz22 hs22 hb22 rfl (by decide) (.slice ax k cx) k (D.map (·.1)) rfl (HO.out.alloc _) (.slice (some ⟨w2.heap.size, 0, none⟩) 1 1) 1 [(Value.slice a1 (ln l k).length c1)] rfl (.inr ⟨⟨w2.heap.size, 0, none⟩, 1, rfl, fun j t hj => lit_cells w2 _ 22 j t hj⟩) rfl ?r1 ?r2 ?r3 ?r4 ?_)
            case r1 => intro u hu; simp at hu; subst hu; rfl
            case r2 => unfold maxLen; omega
            case r3 => omega
            case r4 => have := HR2.out.bel.size; simp; omega
            intro v2 w3 hown2 hgrow2 hfr2
            have HR3 : Hid (Rws w w3 (spl v2 (D ++ [((Value.slice a1 (ln l k).length c1), ln l k)]))) := by
              have h1 := (HR2.out.alloc (.cells #[(Value.slice a1 (ln l k).length c1)] 22)).grow (i := 0) (r := vrow (.slice ax k cx) D) rfl hgrow2 hown2 (by rcases hfr2 with e | ⟨q, e, hq⟩; exact .inl e; exact .inr ⟨q, e, by simpa using hq⟩)
              have e3 : (spl (.slice ax k cx) D ++ [brow ((Value.slice a1 (ln l k).length c1), ln l k)]).set 0 ⟨22, 1, v2, k + 1, D.map (·.1) ++ [(Value.slice a1 (ln l k).length c1)]⟩ = spl v2 (D ++ [((Value.slice a1 (ln l k).length c1), ln l k)]) := by
                unfold spl vrow
                simp [HD.out]
              rw [e3] at h1
              exact h1
            have HP3 : Hid ((D ++ [((Value.slice a1 (ln l k).length c1), ln l k)]).map (·.2) = lns l (k + 1)) := by unfold Hid; rw [lns_succ, List.map_append, HP.out]; rfl
            have HD3 : Hid ((D ++ [((Value.slice a1 (ln l k).length c1), ln l k)]).length = k + 1) := by unfold Hid; simp [HD.out]
            clear hown2 hgrow2 hfr2 HR HR2 HO
            go_wp2
            go_roundw
            case rel => first | exact .inl ⟨k + 1, i + 1, i + 1, _, by go_num, by go_num, by omega, by omega, HN.out (by omega), fun j h1 h2 => by omega, HD3.out, HP3.out, HR3.out⟩ | exact .inr ⟨_, by go_num, by rw [HP3.out, HLS.out (by first | trivial | rfl | omega)], HR3.out⟩
            case measure => first | (simp [intOf]; done) | (simp [intOf]; omega)
          · obtain rfl : i = n := by omega
            clear hstop
            by_cases hcs : c = s
            · obtain rfl : s = i := by omega
              obtain rfl : s = c := hcs.symm
              have SR : Hid (Srv wr (.slice (some a) 0 0) 0 (bv (ln l k))) := by
                unfold Hid; rw [HLD.out]
                have := ((T1.out.tail0 hs rfl).mid hin hsi).srv
                simpa using this
              go_wp2_with (at_builtin; refine append_srv rfl (.tmp 24) (.tmp 28) 22 rfl wr.heap.size 5 i5 (.int .u8 0) 1 1 Try.underlying22 hi5 hz5 hs5 hb5 rfl (by decide) (.slice (some ⟨wr.heap.size, 0, none⟩) 0 0) 0 [] rfl (World.ownsRow_made wr #[] 0 (Nat.le_refl _) (by decide) rfl) (.slice (some a) 0 0) (0) (bv (ln l k)) rfl (SR.out.keep (bAlloc (Below.refl _ _) _)) (by rw [bv_length]; have := HEL.out; omega) (bv_one _) (by unfold maxLen; omega) (by omega) (by simp) ?_)
              intro v1 w2 hown1 hgrow1 hfr1
              have e1 : (ln l k).length = 0 := by have := HEL.out; omega
              have hown1' : w2.ownsRow wr.heap.size 5 1 v1 (ln l k).length (bv (ln l k)) := by rw [e1]; simpa using hown1
              have hbel1 : Below wr.heap.size wr w2 := (bAlloc (Below.refl _ _) _).grown hgrow1 (by simp) (fun k hk => by simp [Value.ownBlock] at hk; omega)
              have HR2 : Hid (Rws w w2 (spl (.slice ax k cx) D ++ [brow (v1, ln l k)])) := HR.out.new hbel1 hown1'
              obtain ⟨a1, c1, ev1⟩ := own_shape hown1'
              subst ev1
              clear hown1' e1 hbel1
              clear hown1 hgrow1 hfr1
              have HO : Hid (w2.ownsRow w.heap.size 22 1 (.slice ax k cx) k (D.map (·.1))) := by have := HR2.out.own 0 _ rfl; unfold Hid; simpa [spl, vrow, HD.out] using this
              go_wp2_with (at_builtin; refine append_srv rfl (.tmp 30) (.tmp 32) 57 rfl w.heap.size 22 i22 (.slice none 0 0) 1 24 Try.underlying57 hi22 hz22 hs22 hb22 rfl (by decide) (.slice ax k cx) k (D.map (·.1)) rfl (HO.out.alloc _) (.slice (some ⟨w2.heap.size, 0, none⟩) 1 1) 1 [(Value.slice a1 (ln l k).length c1)] rfl (.inr ⟨⟨w2.heap.size, 0, none⟩, 1, rfl, fun j t hj => lit_cells w2 _ 22 j t hj⟩) rfl ?r1 ?r2 ?r3 ?r4 ?_)
              case r1 => intro u hu; simp at hu; subst hu; rfl
              case r2 => unfold maxLen; omega
              case r3 => omega
              case r4 => have := HR2.out.bel.size; simp; omega
              intro v2 w3 hown2 hgrow2 hfr2
              have HR3 : Hid (Rws w w3 (spl v2 (D ++ [((Value.slice a1 (ln l k).length c1), ln l k)]))) := by
                have h1 := (HR2.out.alloc (.cells #[(Value.slice a1 (ln l k).length c1)] 22)).grow (i := 0) (r := vrow (.slice ax k cx) D) rfl hgrow2 hown2 (by rcases hfr2 with e | ⟨q, e, hq⟩; exact .inl e; exact .inr ⟨q, e, by simpa using hq⟩)
                have e3 : (spl (.slice ax k cx) D ++ [brow ((Value.slice a1 (ln l k).length c1), ln l k)]).set 0 ⟨22, 1, v2, k + 1, D.map (·.1) ++ [(Value.slice a1 (ln l k).length c1)]⟩ = spl v2 (D ++ [((Value.slice a1 (ln l k).length c1), ln l k)]) := by
                  unfold spl vrow
                  simp [HD.out]
                rw [e3] at h1
                exact h1
              have HP3 : Hid ((D ++ [((Value.slice a1 (ln l k).length c1), ln l k)]).map (·.2) = lns l (k + 1)) := by unfold Hid; rw [lns_succ, List.map_append, HP.out]; rfl
              have HD3 : Hid ((D ++ [((Value.slice a1 (ln l k).length c1), ln l k)]).length = k + 1) := by unfold Hid; simp [HD.out]
              clear hown2 hgrow2 hfr2 HR HR2 HO
              go_wp2
              go_roundw
              case rel => first | exact .inl ⟨k + 1, i + 1, i + 1, _, by go_num, by go_num, by omega, by omega, HN.out (by omega), fun j h1 h2 => by omega, HD3.out, HP3.out, HR3.out⟩ | exact .inr ⟨_, by go_num, by rw [HP3.out, HLS.out (by first | trivial | rfl | omega)], HR3.out⟩
              case measure => first | (simp [intOf]; done) | (simp [intOf]; omega)
            · have SR : Hid (Srv wr (.slice (some (a.add s)) (i - s) (c - s)) (i - s) (bv (ln l k))) := by
                unfold Hid; rw [HLD.out]
                exact ((T1.out.tail hs).mid hin hsi).srv
              go_wp2_with (at_builtin; refine append_srv rfl (.tmp 24) (.tmp 28) 22 rfl wr.heap.size 5 i5 (.int .u8 0) 1 1 Try.underlying22 hi5 hz5 hs5 hb5 rfl (by decide) (.slice (some ⟨wr.heap.size, 0, none⟩) 0 0) 0 [] rfl (World.ownsRow_made wr #[] 0 (Nat.le_refl _) (by decide) rfl) (.slice (some (a.add s)) (i - s) (c - s)) (i - s) (bv (ln l k)) rfl (SR.out.keep (bAlloc (Below.refl _ _) _)) (by rw [bv_length]; have := HEL.out; omega) (bv_one _) (by unfold maxLen; omega) (by omega) (by simp) ?_)
              intro v1 w2 hown1 hgrow1 hfr1
              have e1 : (ln l k).length = i - s := by have := HEL.out; omega
              have hown1' : w2.ownsRow wr.heap.size 5 1 v1 (ln l k).length (bv (ln l k)) := by rw [e1]; simpa using hown1
              have hbel1 : Below wr.heap.size wr w2 := (bAlloc (Below.refl _ _) _).grown hgrow1 (by simp) (fun k hk => by simp [Value.ownBlock] at hk; omega)
              have HR2 : Hid (Rws w w2 (spl (.slice ax k cx) D ++ [brow (v1, ln l k)])) := HR.out.new hbel1 hown1'
              obtain ⟨a1, c1, ev1⟩ := own_shape hown1'
              subst ev1
              clear hown1' e1 hbel1
              clear hown1 hgrow1 hfr1
              have HO : Hid (w2.ownsRow w.heap.size 22 1 (.slice ax k cx) k (D.map (·.1))) := by have := HR2.out.own 0 _ rfl; unfold Hid; simpa [spl, vrow, HD.out] using this
              go_wp2_with (at_builtin; refine append_srv rfl (.tmp 30) (.tmp 32) 57 rfl w.heap.size 22 i22 (.slice none 0 0) 1 24 Try.underlying57 hi22 hz22 hs22 hb22 rfl (by decide) (.slice ax k cx) k (D.map (·.1)) rfl (HO.out.alloc _) (.slice (some ⟨w2.heap.size, 0, none⟩) 1 1) 1 [(Value.slice a1 (ln l k).length c1)] rfl (.inr ⟨⟨w2.heap.size, 0, none⟩, 1, rfl, fun j t hj => lit_cells w2 _ 22 j t hj⟩) rfl ?r1 ?r2 ?r3 ?r4 ?_)
              case r1 => intro u hu; simp at hu; subst hu; rfl
              case r2 => unfold maxLen; omega
              case r3 => omega
              case r4 => have := HR2.out.bel.size; simp; omega
              intro v2 w3 hown2 hgrow2 hfr2
              have HR3 : Hid (Rws w w3 (spl v2 (D ++ [((Value.slice a1 (ln l k).length c1), ln l k)]))) := by
                have h1 := (HR2.out.alloc (.cells #[(Value.slice a1 (ln l k).length c1)] 22)).grow (i := 0) (r := vrow (.slice ax k cx) D) rfl hgrow2 hown2 (by rcases hfr2 with e | ⟨q, e, hq⟩; exact .inl e; exact .inr ⟨q, e, by simpa using hq⟩)
                have e3 : (spl (.slice ax k cx) D ++ [brow ((Value.slice a1 (ln l k).length c1), ln l k)]).set 0 ⟨22, 1, v2, k + 1, D.map (·.1) ++ [(Value.slice a1 (ln l k).length c1)]⟩ = spl v2 (D ++ [((Value.slice a1 (ln l k).length c1), ln l k)]) := by
                  unfold spl vrow
                  simp [HD.out]
                rw [e3] at h1
                exact h1
              have HP3 : Hid ((D ++ [((Value.slice a1 (ln l k).length c1), ln l k)]).map (·.2) = lns l (k + 1)) := by unfold Hid; rw [lns_succ, List.map_append, HP.out]; rfl
              have HD3 : Hid ((D ++ [((Value.slice a1 (ln l k).length c1), ln l k)]).length = k + 1) := by unfold Hid; simp [HD.out]
              clear hown2 hgrow2 hfr2 HR HR2 HO
              go_wp2
              go_roundw
              case rel => first | exact .inl ⟨k + 1, i + 1, i + 1, _, by go_num, by go_num, by omega, by omega, HN.out (by omega), fun j h1 h2 => by omega, HD3.out, HP3.out, HR3.out⟩ | exact .inr ⟨_, by go_num, by rw [HP3.out, HLS.out (by first | trivial | rfl | omega)], HR3.out⟩
              case measure => first | (simp [intOf]; done) | (simp [intOf]; omega)
      · have hlt : i < n := by
          rcases Nat.lt_or_ge i n with h | h
          · exact h
          · exact absurd (.inl (by omega)) hstop
        have hno10 : le (at8 l i) = false := by
          cases h : le (at8 l i) with
          | false => rfl
          | true => exact absurd (.inr h) hstop
        obtain ⟨g, o, rfl, hc⟩ := T1.out.at (by omega)
        have hc0 := hc i hlt
        have h10 : (((at8 l i).toNat : Int) == 10) = false := hno10
        have hin2 : (i : Int) < (n : Int) := by omega
        have hin3 : ((i : Int) == (n : Int)) = false := by rw [beq_eq_false_iff_ne]; omega
        have HN2 : Hid (∀ j, s ≤ j → j < i + 1 → le (at8 l j) = false) := fun j h1 h2 => by
          rcases Nat.lt_or_ge j i with h | h
          · exact HNo.out j h1 h
          · obtain rfl : j = i := by omega
            exact hno10
        clear hc hno10 hstop
        go_wp2
        go_roundw
        case rel => exact .inl ⟨k, s, i + 1, D, rfl, by go_num, by omega, by omega, HS.out, HN2.out, HD.out, HP.out, HR.out⟩
        case measure => first | (simp [intOf]; done) | (simp [intOf]; omega)
    · have HR := Hid.mk' hR
      have HD := Hid.mk' hD
      clear hR hD
      have h1 : ¬ ((n : Int) + 1 ≤ (n : Int)) := by omega
      go_wp2
      go_ret
      first | exact ⟨u3, D, rfl, HR.out, HD.out⟩ | exact ⟨u3, rfl, D, HR.out, HD.out⟩
end Go.Proofs.Ytaakgoojcogbcaa
