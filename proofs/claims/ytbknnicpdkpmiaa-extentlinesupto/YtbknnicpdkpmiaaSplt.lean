/- The contract of lines.Split: the lines of a text, each in memory of its own. -/
import Derived.Test.YtbknnicpdkpmiaaRws
import Derived.Test.YtbknnicpdkpmiaaRef2
import Derived.Test.YtbknnicpdkpmiaaLent
import Derived.Laws.MakeOwn
namespace Go.Proofs.Ytbknnicpdkpmiaa
open Go.RowKit

theorem info22 : (Try.prog.info? 22).map (fun i => (i.zero, i.size, i.bytes)) = some (some (.slice none 0 0), 1, 24) := by kernel_rfl

/-- line number i -/
def ln (l : List UInt8) (i : Nat) : List UInt8 := (l.drop (sp l i)).take (en l (sp l i) - sp l i)
/-- the first k lines -/
def lns (l : List UInt8) (k : Nat) : List (List UInt8) := (List.range k).map (ln l)
theorem lns_succ (l : List UInt8) (k : Nat) : lns l (k + 1) = lns l k ++ [ln l k] := by unfold lns; rw [List.range_succ, List.map_append]; rfl
theorem lns_length (l : List UInt8) (k : Nat) : (lns l k).length = k := by simp [lns]
theorem ln_length {l : List UInt8} {i : Nat} (h : i ≤ nl l) : (ln l i).length = en l (sp l i) - sp l i := by
  unfold ln
  have h1 := sp_le h
  have h2 := en_le h1
  simp; omega

/-- a row of bytes, a row of lists -/
def brow (x : Value × List UInt8) : Rw := ⟨5, 1, x.1, x.2.length, bv x.2⟩
def vrow (v : Value) (D : List (Value × List UInt8)) : Rw := ⟨22, 1, v, D.length, D.map (·.1)⟩
/-- a list of lists and its lists, each in memory of its own -/
def spl (v : Value) (D : List (Value × List UInt8)) : List Rw := vrow v D :: D.map brow

theorem Tx.mid {w : World} {ao : Option Addr} {n c s e : Nat} {l : List UInt8} (h : Tx w ao (n - s) c (l.drop s)) (he : e ≤ n) (hs : s ≤ e) : Tx w ao (e - s) c ((l.drop s).take (e - s)) := h.head (by omega)
set_option maxRecDepth 8000 in
set_option maxHeartbeats 1000000 in
theorem split_some (a : Addr) (n c : Nat) (l : List UInt8) (w : World) (hn : n ≤ 4398046511104) (HT : Hid (Tx w (some a) n c l)) :
    Calls Try.prog 16 #[.slice (some a) n c] w fun e w' => ∃ v D, e = .returned v ∧ Rws w w' (spl v D) ∧ D.map (·.2) = lns l (nl l + 1) := by
  obtain ⟨i5, hi5, hz5, hs5, hb5⟩ := info_parts info5
  obtain ⟨i22, hi22, hz22, hs22, hb22⟩ := info_parts info22
  have hcap := HT.out.cap
  have hlen := Hid.mk' HT.out.len
  have hnl : nl l ≤ n := by have := nl_le l; rw [hlen.out] at this; exact this
  have hmk := fun W : World => run_make (P := Try.prog) W 45 22 i22 (.slice none 0 0) Try.underlying45 hi22 hz22 .i64 .i64 0 ((nl l : Int) + 1) (Int.le_refl _) (by omega) (by rw [hb22]; omega) (by omega)
  go_enter Try.func16, Try.ntmps16
  go_wp2_with (go_at_call 31; refine (count_any _ _ _ l _ HT).mono ?_; rintro e w1 ⟨rfl, hb1⟩)
  go_loopw [3, 4] (fun u v wr => ∃ (k s : Nat) (D : List (Value × List UInt8)), v = .int .i64 s ∧ St l k s ∧ D.length = k ∧ D.map (·.2) = lns l k ∧ Rws w wr (spl u D)) (fun _ v _ => n + 1 - (intOf v).toNat)
  case atStart =>
    refine ⟨0, 0, [], rfl, St.zero l, rfl, rfl, ?_⟩
    have h1 := ((Rws.nil w).keep hb1).new (bAlloc (Below.refl _ _) (.cells (madeCells (Value.slice none 0 0).cells (nl l + 1)) 22)) (World.ownsRow_made w1 _ (nl l + 1) (base := w1.heap.size) (e := 22) (size := 1) (Nat.le_refl _) (by unfold maxLen; omega) (by rw [size_madeCells, Nat.mul_one]))
    simpa [hs22, Value.cells, spl, vrow] using h1
  case round =>
    obtain ⟨k, s, D, rfl, hst, hD, hparts, hR⟩ := hrel
    have HS := Hid.mk' hst
    have HD := Hid.mk' hD
    have HP := Hid.mk' hparts
    have HR := Hid.mk' hR
    clear hst hD hparts hR hmk
    have hs : s ≤ n := by have := HS.out.low'; rw [hlen.out] at this; exact this
    have hsE := en_ge l s
    have hE : en l s ≤ n := by have := en_le HS.out.low'; rw [hlen.out] at this; exact this
    have T1 := Hid.mk' (HT.out.keep HR.out.bel)
    have C1 := Hid.mk' (endFrom_any _ n c s l wr hs T1)
    have HE : Hid (ln l k = (l.drop s).take (en l s - s)) := by unfold Hid ln; rw [sp_eq HS.out]
    have HN := Hid.mk' (fun h => HS.out.next (by rw [hlen.out]; exact h))
    have HL := Hid.mk' (fun h => HS.out.last (by rw [hlen.out]; exact h))
    have hk : k ≤ nl l := HS.out.low
    have hEn : (ln l k).length = en l s - s := by rw [ln_length hk, sp_eq HS.out]
    have HEL := Hid.mk' hEn
    obtain ⟨ax, cx, hu3⟩ := own_shape (HR.out.own 0 _ rfl)
    have hux : u3 = .slice ax k cx := by rw [← HD.out]; exact hu3
    subst hux
    clear hu3 hEn
    generalize en l s = E at *
    have hs' : (s : Int) ≤ E := by omega
    have hE' : (E : Int) ≤ n := by omega
    by_cases hcs : c = s
    · obtain rfl : n = s := by omega
      obtain rfl : E = n := by omega
      obtain rfl : c = E := hcs
      have SR : Hid (Srv wr (.slice (some a) 0 0) 0 (bv (ln l k))) := by
        unfold Hid; rw [HE.out]
        have := ((T1.out.tail0 hs rfl).mid hE hsE).srv
        simpa using this
      go_wp2_with (first | (go_at_call 32; refine C1.out.mono ?_; rintro e w' ⟨rfl, hw⟩; have hq := hw.symm; subst hq) | (at_builtin; refine append_srv rfl (.const (.slice none 0 0)) (.tmp 16) 22 rfl wr.heap.size 5 i5 (.int .u8 0) 1 1 Try.underlying22 hi5 hz5 hs5 hb5 rfl (by decide) (.slice none 0 0) 0 [] rfl (World.ownsRow_nil _ _ _ _) (.slice (some a) 0 0) (0) (bv (ln l k)) rfl SR.out ?q1 (bv_one _) ?q2 ?q3 (Nat.le_refl _) ?_))
      case q1 => rw [bv_length]; have := HEL.out; omega
      case q2 => unfold maxLen; omega
      case q3 => omega
      intro v1 w2 hown1 hgrow1 hfr1
      have e1 : (ln l k).length = 0 := by have := HEL.out; omega
      have hown1' : w2.ownsRow wr.heap.size 5 1 v1 (ln l k).length (bv (ln l k)) := by rw [e1]; simpa using hown1
      have HR2 : Hid (Rws w w2 (spl (.slice ax k cx) D ++ [brow (v1, ln l k)])) := HR.out.new ((Below.refl _ _).grown hgrow1 (Nat.le_refl _) (fun k hk => by simp [Value.ownBlock] at hk)) hown1'
      obtain ⟨a1, c1, ev1⟩ := own_shape hown1'
      subst ev1
      clear hown1' e1
      clear hown1 hgrow1 hfr1
      have HO : Hid (w2.ownsRow w.heap.size 22 1 (.slice ax k cx) k (D.map (·.1))) := by have := HR2.out.own 0 _ rfl; unfold Hid; simpa [spl, vrow, HD.out] using this
      go_wp2_with (at_builtin; refine append_srv rfl (.tmp 12) (.tmp 18) 45 rfl w.heap.size 22 i22 (.slice none 0 0) 1 24 Try.underlying45 hi22 hz22 hs22 hb22 rfl (by decide) (.slice ax k cx) k (D.map (·.1)) rfl (HO.out.alloc _) (.slice (some ⟨w2.heap.size, 0, none⟩) 1 1) 1 [(Value.slice a1 (ln l k).length c1)] rfl (.inr ⟨⟨w2.heap.size, 0, none⟩, 1, rfl, fun j t hj => lit_cells w2 _ 22 j t hj⟩) rfl ?r1 ?r2 ?r3 ?r4 ?_)
      case r1 => intro u hu; simp at hu; subst hu; rfl
      case r2 => unfold maxLen; omega
      case r3 => omega
      case r4 => have := HR2.out.bel.size; simp; omega
      intro v2 w3 hown2 hgrow2 hfr2
      have HR3 : Hid (Rws w w3 (spl v2 (D ++ [((Value.slice a1 (ln l k).length c1), ln l k)]))) := by
        have h1 := (HR2.out.alloc (.cells #[(Value.slice a1 (ln l k).length c1)] 22)).grow (i := 0) (r := vrow (.slice ax k cx) D) rfl hgrow2 hown2 (by rcases hfr2 with e | ⟨q, e, hq⟩; exact .inl e; exact .inr ⟨q, e, by simpa using hq⟩)
        have e3 : (spl (.slice ax k cx) D ++ [brow ((Value.slice a1 (ln l k).length c1), ln l k)]).set 0 ⟨22, 1, v2, k + 1, D.map (·.1) ++ [(Value.slice a1 (ln l k).length c1)]⟩ = spl v2 (D ++ [((Value.slice a1 (ln l k).length c1), ln l k)]) := by
          unfold spl vrow
          simp [HD.out]
        rw [e3] at h1
        exact h1
      have HP3 : Hid ((D ++ [((Value.slice a1 (ln l k).length c1), ln l k)]).map (·.2) = lns l (k + 1)) := by unfold Hid; rw [lns_succ, List.map_append, HP.out]; rfl
      have HD3 : Hid ((D ++ [((Value.slice a1 (ln l k).length c1), ln l k)]).length = k + 1) := by unfold Hid; simp [HD.out]
      clear hown2 hgrow2 hfr2 HR HR2 HO
      go_wp2
      go_ret
      exact ⟨v2, _, rfl, HR3.out, by rw [HP3.out, HL.out (by first | trivial | rfl)]⟩
    · have SR : Hid (Srv wr (.slice (some (a.add s)) (E - s) (c - s)) (E - s) (bv (ln l k))) := by
        unfold Hid; rw [HE.out]
        exact ((T1.out.tail hs).mid hE hsE).srv
      go_wp2_with (first | (go_at_call 32; refine C1.out.mono ?_; rintro e w' ⟨rfl, hw⟩; have hq := hw.symm; subst hq) | (at_builtin; refine append_srv rfl (.const (.slice none 0 0)) (.tmp 16) 22 rfl wr.heap.size 5 i5 (.int .u8 0) 1 1 Try.underlying22 hi5 hz5 hs5 hb5 rfl (by decide) (.slice none 0 0) 0 [] rfl (World.ownsRow_nil _ _ _ _) (.slice (some (a.add s)) (E - s) (c - s)) (E - s) (bv (ln l k)) rfl SR.out ?q1 (bv_one _) ?q2 ?q3 (Nat.le_refl _) ?_))
      case q1 => rw [bv_length]; have := HEL.out; omega
      case q2 => unfold maxLen; omega
      case q3 => omega
      intro v1 w2 hown1 hgrow1 hfr1
      have e1 : (ln l k).length = E - s := by have := HEL.out; omega
      have hown1' : w2.ownsRow wr.heap.size 5 1 v1 (ln l k).length (bv (ln l k)) := by rw [e1]; simpa using hown1
      have HR2 : Hid (Rws w w2 (spl (.slice ax k cx) D ++ [brow (v1, ln l k)])) := HR.out.new ((Below.refl _ _).grown hgrow1 (Nat.le_refl _) (fun k hk => by simp [Value.ownBlock] at hk)) hown1'
      obtain ⟨a1, c1, ev1⟩ := own_shape hown1'
      subst ev1
      clear hown1' e1
      clear hown1 hgrow1 hfr1
      have HO : Hid (w2.ownsRow w.heap.size 22 1 (.slice ax k cx) k (D.map (·.1))) := by have := HR2.out.own 0 _ rfl; unfold Hid; simpa [spl, vrow, HD.out] using this
      go_wp2_with (at_builtin; refine append_srv rfl (.tmp 12) (.tmp 18) 45 rfl w.heap.size 22 i22 (.slice none 0 0) 1 24 Try.underlying45 hi22 hz22 hs22 hb22 rfl (by decide) (.slice ax k cx) k (D.map (·.1)) rfl (HO.out.alloc _) (.slice (some ⟨w2.heap.size, 0, none⟩) 1 1) 1 [(Value.slice a1 (ln l k).length c1)] rfl (.inr ⟨⟨w2.heap.size, 0, none⟩, 1, rfl, fun j t hj => lit_cells w2 _ 22 j t hj⟩) rfl ?r1 ?r2 ?r3 ?r4 ?_)
      case r1 => intro u hu; simp at hu; subst hu; rfl
      case r2 => unfold maxLen; omega
      case r3 => omega
      case r4 => have := HR2.out.bel.size; simp; omega
      intro v2 w3 hown2 hgrow2 hfr2
      have HR3 : Hid (Rws w w3 (spl v2 (D ++ [((Value.slice a1 (ln l k).length c1), ln l k)]))) := by
        have h1 := (HR2.out.alloc (.cells #[(Value.slice a1 (ln l k).length c1)] 22)).grow (i := 0) (r := vrow (.slice ax k cx) D) rfl hgrow2 hown2 (by rcases hfr2 with e | ⟨q, e, hq⟩; exact .inl e; exact .inr ⟨q, e, by simpa using hq⟩)
        have e3 : (spl (.slice ax k cx) D ++ [brow ((Value.slice a1 (ln l k).length c1), ln l k)]).set 0 ⟨22, 1, v2, k + 1, D.map (·.1) ++ [(Value.slice a1 (ln l k).length c1)]⟩ = spl v2 (D ++ [((Value.slice a1 (ln l k).length c1), ln l k)]) := by
          unfold spl vrow
          simp [HD.out]
        rw [e3] at h1
        exact h1
      have HP3 : Hid ((D ++ [((Value.slice a1 (ln l k).length c1), ln l k)]).map (·.2) = lns l (k + 1)) := by unfold Hid; rw [lns_succ, List.map_append, HP.out]; rfl
      have HD3 : Hid ((D ++ [((Value.slice a1 (ln l k).length c1), ln l k)]).length = k + 1) := by unfold Hid; simp [HD.out]
      clear hown2 hgrow2 hfr2 HR HR2 HO
      by_cases hEn : E = n
      · subst hEn
        go_wp2
        go_ret
        have hlast : (D ++ [((Value.slice a1 (ln l k).length c1), ln l k)]).map (·.2) = lns l (nl l + 1) := by rw [HP3.out, HL.out (by first | trivial | rfl)]
        first | exact ⟨v2, _, rfl, HR3.out, hlast⟩ | exact ⟨v2, rfl, _, HR3.out, hlast⟩
      · have hEn' : ¬ (E : Int) = (n : Int) := by omega
        go_wp2
        go_roundw
        case rel => exact ⟨k + 1, E + 1, _, by go_num, HN.out (by omega), HD3.out, HP3.out, HR3.out⟩
        case measure => first | (simp [intOf]; done) | (simp [intOf]; omega)

theorem sp_nil (i : Nat) : sp [] i = 0 := rfl
set_option maxRecDepth 8000 in
set_option maxHeartbeats 1000000 in
theorem split_none (w : World) :
    Calls Try.prog 16 #[.slice none 0 0] w fun e w' => ∃ v D, e = .returned v ∧ Rws w w' (spl v D) ∧ D.map (·.2) = lns [] (nl [] + 1) := by
  obtain ⟨i22, hi22, hz22, hs22, hb22⟩ := info_parts info22
  have hmk := fun W : World => run_make (P := Try.prog) W 45 22 i22 (.slice none 0 0) Try.underlying45 hi22 hz22 .i64 .i64 0 1 (Int.le_refl _) (by omega) (by rw [hb22]; omega) (by omega)
  have hz : nl [] = 0 := rfl
  go_enter Try.func16, Try.ntmps16
  go_wp2_with (go_at_call 31; refine (count_any _ _ _ [] _ (tx_nil _)).mono ?_; rintro e w1 ⟨rfl, hb1⟩)
  go_loopw [3, 4] (fun u v wr => v = .int .i64 0 ∧ u = .slice (some ⟨w1.heap.size, 0, none⟩) 0 1 ∧ Rws w wr (spl u [])) (fun _ v _ => 0)
  case atStart =>
    refine ⟨rfl, rfl, ?_⟩
    have h1 := ((Rws.nil w).keep hb1).new (bAlloc (Below.refl _ _) (.cells (madeCells (Value.slice none 0 0).cells 1) 22)) (World.ownsRow_made w1 _ 1 (base := w1.heap.size) (e := 22) (size := 1) (Nat.le_refl _) (by unfold maxLen; omega) (by rw [size_madeCells]))
    simpa [hs22, Value.cells, spl, vrow] using h1
  case round =>
    obtain ⟨rfl, rfl, hR⟩ := hrel
    have HR := Hid.mk' hR
    clear hR hmk
    have HO : Hid (wr.ownsRow w.heap.size 22 1 (.slice (some ⟨w1.heap.size, 0, none⟩) 0 1) 0 []) := by have := HR.out.own 0 _ rfl; unfold Hid; simpa [spl, vrow] using this
    go_wp2_with (first | (go_at_call 32; refine (endFrom_any none 0 0 0 [] _ (Nat.le_refl _) (tx_nil _)).mono ?_; rintro e w' ⟨rfl, hw⟩; have hq := hw.symm; subst hq) | (at_builtin; refine append_srv rfl (.tmp 12) (.tmp 18) 45 rfl w.heap.size 22 i22 (.slice none 0 0) 1 24 Try.underlying45 hi22 hz22 hs22 hb22 rfl (by decide) (.slice (some ⟨w1.heap.size, 0, none⟩) 0 1) 0 [] rfl (HO.out.alloc _) (.slice (some ⟨wr.heap.size, 0, none⟩) 1 1) 1 [.slice none 0 0] rfl (.inr ⟨⟨wr.heap.size, 0, none⟩, 1, rfl, fun j t hj => lit_cells wr _ 22 j t hj⟩) rfl ?r1 ?r2 ?r3 ?r4 ?_))
    case r1 => intro u hu; simp at hu; subst hu; rfl
    case r2 => unfold maxLen; omega
    case r3 => omega
    case r4 => have := HR.out.bel.size; simp; omega
    intro v2 w3 hown2 hgrow2 hfr2
    have HR3 : Hid (Rws w w3 (spl v2 [(.slice none 0 0, [])])) := by
      have h0 := (HR.out.alloc (.cells #[.slice none 0 0] 22)).grow (i := 0) (r := vrow (.slice (some ⟨w1.heap.size, 0, none⟩) 0 1) []) rfl hgrow2 hown2 (by rcases hfr2 with e | ⟨q, e, hq⟩; exact .inl e; exact .inr ⟨q, e, by simpa using hq⟩)
      have h1 := h0.new (Below.refl _ _) (World.ownsRow_nil w3 w3.heap.size 5 1)
      exact h1
    clear hown2 hgrow2 hfr2 HR HO
    go_wp2
    go_ret
    first | exact ⟨v2, _, rfl, HR3.out, rfl⟩ | exact ⟨v2, rfl, _, HR3.out, rfl⟩

theorem split_any (ao : Option Addr) (n c : Nat) (l : List UInt8) (w : World) (hn : n ≤ 4398046511104) (HT : Hid (Tx w ao n c l)) :
    Calls Try.prog 16 #[.slice ao n c] w fun e w' => ∃ v D, e = .returned v ∧ Rws w w' (spl v D) ∧ D.map (·.2) = lns l (nl l + 1) := by
  cases ao with
  | none =>
    obtain ⟨rfl, rfl, rfl⟩ := HT.out.none
    exact split_none w
  | some a => exact split_some a n c l w hn HT
end Go.Proofs.Ytbknnicpdkpmiaa
