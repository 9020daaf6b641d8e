/- Ech, Tsk, Hom -/
import Derived.Test.YtppefcnopkmhbaaGreatDoorPq11
import Derived.Laws.EntriesVeiled
namespace Go.Proofs.YtppefcnopkmhbaaGreatDoor
open Go.RowKit

set_option maxRecDepth 8000
/-- a turn of numbers, on bytes -/
def tw (f : Int → Int) (b : UInt8) : UInt8 := UInt8.ofNat (f (b.toNat : Int)).toNat
theorem tw_nat {f : Int → Int} (hf : ∀ b, 0 ≤ b → b ≤ 255 → 0 ≤ f b ∧ f b ≤ 255) (b : UInt8) : ((tw f b).toNat : Int) = f (b.toNat : Int) := by
  have h1 := UInt8.toNat_lt b
  have h := hf (b.toNat : Int) (by omega) (by omega)
  unfold tw
  rw [UInt8.toNat_ofNat']
  omega
theorem run_zeros (n : Nat) (hn : n ≤ 140737488355328) : ∃ CS : List Value, CS.length = n ∧ ∀ W : World, (Instr.makeSlice 22 (.int .i64 (n : Int)) (.int .i64 (n : Int))).run Tryz.prog W = .ok (.slice (some ⟨W.heap.size, 0, none⟩) n n) (W.alloc (.cells CS.toArray 5)) := by
  obtain ⟨i0, hi, hz0, hz1, hz2⟩ := info_parts info5
  refine ⟨(madeCells (Value.int .u8 0).cells (n : Int).toNat).toList, by simp [madeCells], fun W => ?_⟩
  have := run_make (P := Tryz.prog) W 22 5 i0 (.int .u8 0) Tryz.underlying22 hi hz0 .i64 .i64 (n : Int) (n : Int) (by omega) (by omega) (by rw [hz2]; omega) (by omega)
  rw [hz1, show (n : Int).toNat = n by omega, Nat.mul_one] at this
  rw [show (n : Int).toNat = n by omega, Array.toArray_toList]
  exact this
/-- a row that is turned up to i -/
def Tnd (f : Int → Int) (l : List UInt8) (X : List Value) (i : Nat) : Prop := ∀ j, j < i → X[j]? = some (.int .u8 (f ((at8 l j).toNat : Int)))
theorem Tnd.set {f : Int → Int} {l : List UInt8} {X : List Value} {i : Nat} (h : Tnd f l X i) (hi : i < X.length) : Tnd f l (X.set i (.int .u8 (f ((at8 l i).toNat : Int)))) (i + 1) := fun j hj => by
  by_cases e : j = i
  · subst e; rw [List.getElem?_set_self hi]
  · rw [List.getElem?_set_ne (Ne.symm e)]; exact h j (by omega)
theorem Tnd.done {f : Int → Int} (hf : ∀ b, 0 ≤ b → b ≤ 255 → 0 ≤ f b ∧ f b ≤ 255) {l : List UInt8} {X : List Value} {i : Nat} (h : Tnd f l X i) (hl : l.length = i) : X.take i = bv (l.map (tw f)) := by
  apply List.ext_getElem?
  intro j
  by_cases hj : j < i
  · rw [List.getElem?_take_of_lt hj, h j hj, bv_at _ _ (by rw [List.length_map]; omega)]
    congr 2
    have e : at8 (l.map (tw f)) j = tw f (at8 l j) := by
      rw [at8_eq (by rw [List.length_map]; omega), at8_eq (by omega), List.getElem_map]
    rw [e, tw_nat hf]
  · rw [List.getElem?_eq_none (by rw [List.length_take]; omega), List.getElem?_eq_none (by rw [bv_length, List.length_map]; omega)]
set_option maxHeartbeats 4000000 in
theorem each_tog (ao : Option Addr) (n c : Nat) (l : List UInt8) (w : World) (HT : Hid (Tx w ao n c l)) (hn : n ≤ 1048576) :
    Calls Tryz.prog 89 #[.slice ao n c, .func (.func 74) #[] #[]] w fun e w' => WbP (l.map (tw tgB)) w e w' := by
  obtain ⟨CS, hCS, hmk⟩ := run_zeros n (by omega)
  have hlen := HT.out.len
  have HL := Hid.mk' hlen
  have HCS := Hid.mk' hCS
  obtain ⟨W1, hW1⟩ : ∃ x, w.alloc (.cells CS.toArray 5) = x := ⟨_, rfl⟩
  have K1 : Hid (Blk W1 w.heap.size 5 CS.toArray) := by unfold Hid; rw [← hW1]; exact Blk.new w 5 _
  have L1 : Hid (Below w.heap.size w W1) := by unfold Hid; rw [← hW1]; exact bAlloc (Below.refl _ _) _
  obtain ⟨B, hB⟩ : ∃ b, w.heap.size = b := ⟨_, rfl⟩
  have HB := Hid.mk' hB
  rw [hB] at K1
  have hmk' : (Instr.makeSlice 22 (.int .i64 (n : Int)) (.int .i64 (n : Int))).run Tryz.prog w = .ok (.slice (some ⟨B, 0, none⟩) n n) W1 := by rw [hmk w, hB, hW1]
  clear hmk hCS hW1 hB
  go_enter Tryz.func89, Tryz.ntmps89
  go_wp2_with fail
  go_loopg [6, 7, 13] n (fun m x6 x7 x13 wx => ∃ (i : Nat) (X : List Value), x13 = .int .i64 (i : Int) ∧ i + m = n ∧ Hid (Blk wx B 5 X.toArray) ∧ Hid (X.length = n) ∧ Hid (Tnd tgB l X i) ∧ Hid (Below B w wx))
  case atStart => exact ⟨0, CS, rfl, by omega, K1.out, HCS.out, fun j hj => absurd hj (by omega), by rw [← HB.out]; exact L1.out⟩
  case round =>
    obtain ⟨i, X, rfl, him, KX, HXl, HTd, KB⟩ := hrel
    clear K1 L1
    by_cases hi : i < n
    · have hi' : (i : Int) < (n : Int) := by omega
      obtain ⟨g, o, rfl, hc⟩ := HT.out.at (by omega)
      have hHT := HT.out.keep (by rw [HB.out]; exact KB.out : Below w.heap.size w wr)
      obtain ⟨g', o', e', hc'⟩ := hHT.at (by omega)
      simp at e'
      obtain ⟨rfl, rfl⟩ := e'
      have h0 := hc' i hi
      have hb1 := UInt8.toNat_lt (at8 l i)
      have C := Hid.mk' (toggle_any ((at8 l i).toNat : Int) wr (by omega) (by omega))
      have hiX : i < X.length := by have := HXl.out; omega
      have hcX : wr.cell? ⟨B, i, none⟩ = some X[i] := KX.out.cell (by simp [hiX])
      have hfX : wr.frozen? ⟨B, i, none⟩ = false := KX.out.frozen i
      have hi0 : (0 : Int) ≤ (i : Int) := by omega
      have hw1 : IntKind.i64.wrap ((i : Int) + 1) = ((i + 1 : Nat) : Int) := by rw [IntKind.wrap_i64]; omega
      have K2 : Hid (Blk (wr.setCell ⟨B, i, none⟩ (.int .u8 (tgB ((at8 l i).toNat : Int)))) B 5 (X.set i (.int .u8 (tgB ((at8 l i).toNat : Int)))).toArray) := by
        have := KX.out.set (j := i) (.int .u8 (tgB ((at8 l i).toNat : Int)))
        rwa [show X.toArray.setIfInBounds i (.int .u8 (tgB ((at8 l i).toNat : Int))) = (X.set i (.int .u8 (tgB ((at8 l i).toNat : Int)))).toArray by simp] at this
      have L2 : Hid (Below B w (wr.setCell ⟨B, i, none⟩ (.int .u8 (tgB ((at8 l i).toNat : Int))))) := KB.out.setCell (Nat.le_refl _) _
      have HT2 := Hid.mk' (HTd.out.set hiX)
      generalize tgB ((at8 l i).toNat : Int) = q at *
      generalize ((at8 l i).toNat : Int) = z at *
      clear hc hHT hc' hb1 KX
      go_wp2_with (first | (go_at_call 74; refine C.out.mono ?_; rintro e w' ⟨rfl, hw⟩; have hq := hw.symm; subst hq; clear hw) | fail)
      go_roundg (n - (i + 1))
      case measure => omega
      case rel => exact ⟨i + 1, _, by go_num, by omega, K2.out, by have := HXl.out; simp; exact this, HT2.out, L2.out⟩
    · have hi' : ¬ (i : Int) < (n : Int) := by omega
      have hin : i = n := by omega
      have hfin : WbP (l.map (tw tgB)) w (.returned (.slice (some ⟨B, 0, none⟩) n n)) wr := by
        have hll : (l.map (tw tgB)).length = n := by rw [List.length_map]; exact HL.out
        refine ⟨_, rfl, .inr ⟨B, n, X.toArray, by rw [hll], by rw [HB.out]; exact Nat.le_refl _, KX.out.lt, KX.out, by omega, by unfold maxLen; omega, by have := HXl.out; simp; omega, ?_⟩, by rw [HB.out]; exact KB.out⟩
        rw [hll]
        have := HTd.out.done tg_in (by rw [HL.out, hin])
        rw [hin] at this
        simpa using this
      clear KX HTd KB
      go_wp2
      go_ret
      exact hfin
set_option maxHeartbeats 4000000 in
theorem each_low (ao : Option Addr) (n c : Nat) (l : List UInt8) (w : World) (HT : Hid (Tx w ao n c l)) (hn : n ≤ 1048576) :
    Calls Tryz.prog 89 #[.slice ao n c, .func (.func 75) #[] #[]] w fun e w' => WbP (l.map (tw loB)) w e w' := by
  obtain ⟨CS, hCS, hmk⟩ := run_zeros n (by omega)
  have hlen := HT.out.len
  have HL := Hid.mk' hlen
  have HCS := Hid.mk' hCS
  obtain ⟨W1, hW1⟩ : ∃ x, w.alloc (.cells CS.toArray 5) = x := ⟨_, rfl⟩
  have K1 : Hid (Blk W1 w.heap.size 5 CS.toArray) := by unfold Hid; rw [← hW1]; exact Blk.new w 5 _
  have L1 : Hid (Below w.heap.size w W1) := by unfold Hid; rw [← hW1]; exact bAlloc (Below.refl _ _) _
  obtain ⟨B, hB⟩ : ∃ b, w.heap.size = b := ⟨_, rfl⟩
  have HB := Hid.mk' hB
  rw [hB] at K1
  have hmk' : (Instr.makeSlice 22 (.int .i64 (n : Int)) (.int .i64 (n : Int))).run Tryz.prog w = .ok (.slice (some ⟨B, 0, none⟩) n n) W1 := by rw [hmk w, hB, hW1]
  clear hmk hCS hW1 hB
  go_enter Tryz.func89, Tryz.ntmps89
  go_wp2_with fail
  go_loopg [6, 7, 13] n (fun m x6 x7 x13 wx => ∃ (i : Nat) (X : List Value), x13 = .int .i64 (i : Int) ∧ i + m = n ∧ Hid (Blk wx B 5 X.toArray) ∧ Hid (X.length = n) ∧ Hid (Tnd loB l X i) ∧ Hid (Below B w wx))
  case atStart => exact ⟨0, CS, rfl, by omega, K1.out, HCS.out, fun j hj => absurd hj (by omega), by rw [← HB.out]; exact L1.out⟩
  case round =>
    obtain ⟨i, X, rfl, him, KX, HXl, HTd, KB⟩ := hrel
    clear K1 L1
    by_cases hi : i < n
    · have hi' : (i : Int) < (n : Int) := by omega
      obtain ⟨g, o, rfl, hc⟩ := HT.out.at (by omega)
      have hHT := HT.out.keep (by rw [HB.out]; exact KB.out : Below w.heap.size w wr)
      obtain ⟨g', o', e', hc'⟩ := hHT.at (by omega)
      simp at e'
      obtain ⟨rfl, rfl⟩ := e'
      have h0 := hc' i hi
      have hb1 := UInt8.toNat_lt (at8 l i)
      have C := Hid.mk' (lower_any ((at8 l i).toNat : Int) wr (by omega) (by omega))
      have hiX : i < X.length := by have := HXl.out; omega
      have hcX : wr.cell? ⟨B, i, none⟩ = some X[i] := KX.out.cell (by simp [hiX])
      have hfX : wr.frozen? ⟨B, i, none⟩ = false := KX.out.frozen i
      have hi0 : (0 : Int) ≤ (i : Int) := by omega
      have hw1 : IntKind.i64.wrap ((i : Int) + 1) = ((i + 1 : Nat) : Int) := by rw [IntKind.wrap_i64]; omega
      have K2 : Hid (Blk (wr.setCell ⟨B, i, none⟩ (.int .u8 (loB ((at8 l i).toNat : Int)))) B 5 (X.set i (.int .u8 (loB ((at8 l i).toNat : Int)))).toArray) := by
        have := KX.out.set (j := i) (.int .u8 (loB ((at8 l i).toNat : Int)))
        rwa [show X.toArray.setIfInBounds i (.int .u8 (loB ((at8 l i).toNat : Int))) = (X.set i (.int .u8 (loB ((at8 l i).toNat : Int)))).toArray by simp] at this
      have L2 : Hid (Below B w (wr.setCell ⟨B, i, none⟩ (.int .u8 (loB ((at8 l i).toNat : Int))))) := KB.out.setCell (Nat.le_refl _) _
      have HT2 := Hid.mk' (HTd.out.set hiX)
      generalize loB ((at8 l i).toNat : Int) = q at *
      generalize ((at8 l i).toNat : Int) = z at *
      clear hc hHT hc' hb1 KX
      go_wp2_with (first | (go_at_call 75; refine C.out.mono ?_; rintro e w' ⟨rfl, hw⟩; have hq := hw.symm; subst hq; clear hw) | fail)
      go_roundg (n - (i + 1))
      case measure => omega
      case rel => exact ⟨i + 1, _, by go_num, by omega, K2.out, by have := HXl.out; simp; exact this, HT2.out, L2.out⟩
    · have hi' : ¬ (i : Int) < (n : Int) := by omega
      have hin : i = n := by omega
      have hfin : WbP (l.map (tw loB)) w (.returned (.slice (some ⟨B, 0, none⟩) n n)) wr := by
        have hll : (l.map (tw loB)).length = n := by rw [List.length_map]; exact HL.out
        refine ⟨_, rfl, .inr ⟨B, n, X.toArray, by rw [hll], by rw [HB.out]; exact Nat.le_refl _, KX.out.lt, KX.out, by omega, by unfold maxLen; omega, by have := HXl.out; simp; omega, ?_⟩, by rw [HB.out]; exact KB.out⟩
        rw [hll]
        have := HTd.out.done lo_in (by rw [HL.out, hin])
        rw [hin] at this
        simpa using this
      clear KX HTd KB
      go_wp2
      go_ret
      exact hfin
set_option maxHeartbeats 4000000 in
theorem each_upp (ao : Option Addr) (n c : Nat) (l : List UInt8) (w : World) (HT : Hid (Tx w ao n c l)) (hn : n ≤ 1048576) :
    Calls Tryz.prog 89 #[.slice ao n c, .func (.func 76) #[] #[]] w fun e w' => WbP (l.map (tw upB)) w e w' := by
  obtain ⟨CS, hCS, hmk⟩ := run_zeros n (by omega)
  have hlen := HT.out.len
  have HL := Hid.mk' hlen
  have HCS := Hid.mk' hCS
  obtain ⟨W1, hW1⟩ : ∃ x, w.alloc (.cells CS.toArray 5) = x := ⟨_, rfl⟩
  have K1 : Hid (Blk W1 w.heap.size 5 CS.toArray) := by unfold Hid; rw [← hW1]; exact Blk.new w 5 _
  have L1 : Hid (Below w.heap.size w W1) := by unfold Hid; rw [← hW1]; exact bAlloc (Below.refl _ _) _
  obtain ⟨B, hB⟩ : ∃ b, w.heap.size = b := ⟨_, rfl⟩
  have HB := Hid.mk' hB
  rw [hB] at K1
  have hmk' : (Instr.makeSlice 22 (.int .i64 (n : Int)) (.int .i64 (n : Int))).run Tryz.prog w = .ok (.slice (some ⟨B, 0, none⟩) n n) W1 := by rw [hmk w, hB, hW1]
  clear hmk hCS hW1 hB
  go_enter Tryz.func89, Tryz.ntmps89
  go_wp2_with fail
  go_loopg [6, 7, 13] n (fun m x6 x7 x13 wx => ∃ (i : Nat) (X : List Value), x13 = .int .i64 (i : Int) ∧ i + m = n ∧ Hid (Blk wx B 5 X.toArray) ∧ Hid (X.length = n) ∧ Hid (Tnd upB l X i) ∧ Hid (Below B w wx))
  case atStart => exact ⟨0, CS, rfl, by omega, K1.out, HCS.out, fun j hj => absurd hj (by omega), by rw [← HB.out]; exact L1.out⟩
  case round =>
    obtain ⟨i, X, rfl, him, KX, HXl, HTd, KB⟩ := hrel
    clear K1 L1
    by_cases hi : i < n
    · have hi' : (i : Int) < (n : Int) := by omega
      obtain ⟨g, o, rfl, hc⟩ := HT.out.at (by omega)
      have hHT := HT.out.keep (by rw [HB.out]; exact KB.out : Below w.heap.size w wr)
      obtain ⟨g', o', e', hc'⟩ := hHT.at (by omega)
      simp at e'
      obtain ⟨rfl, rfl⟩ := e'
      have h0 := hc' i hi
      have hb1 := UInt8.toNat_lt (at8 l i)
      have C := Hid.mk' (upper_any ((at8 l i).toNat : Int) wr (by omega) (by omega))
      have hiX : i < X.length := by have := HXl.out; omega
      have hcX : wr.cell? ⟨B, i, none⟩ = some X[i] := KX.out.cell (by simp [hiX])
      have hfX : wr.frozen? ⟨B, i, none⟩ = false := KX.out.frozen i
      have hi0 : (0 : Int) ≤ (i : Int) := by omega
      have hw1 : IntKind.i64.wrap ((i : Int) + 1) = ((i + 1 : Nat) : Int) := by rw [IntKind.wrap_i64]; omega
      have K2 : Hid (Blk (wr.setCell ⟨B, i, none⟩ (.int .u8 (upB ((at8 l i).toNat : Int)))) B 5 (X.set i (.int .u8 (upB ((at8 l i).toNat : Int)))).toArray) := by
        have := KX.out.set (j := i) (.int .u8 (upB ((at8 l i).toNat : Int)))
        rwa [show X.toArray.setIfInBounds i (.int .u8 (upB ((at8 l i).toNat : Int))) = (X.set i (.int .u8 (upB ((at8 l i).toNat : Int)))).toArray by simp] at this
      have L2 : Hid (Below B w (wr.setCell ⟨B, i, none⟩ (.int .u8 (upB ((at8 l i).toNat : Int))))) := KB.out.setCell (Nat.le_refl _) _
      have HT2 := Hid.mk' (HTd.out.set hiX)
      generalize upB ((at8 l i).toNat : Int) = q at *
      generalize ((at8 l i).toNat : Int) = z at *
      clear hc hHT hc' hb1 KX
      go_wp2_with (first | (go_at_call 76; refine C.out.mono ?_; rintro e w' ⟨rfl, hw⟩; have hq := hw.symm; subst hq; clear hw) | fail)
      go_roundg (n - (i + 1))
      case measure => omega
      case rel => exact ⟨i + 1, _, by go_num, by omega, K2.out, by have := HXl.out; simp; exact this, HT2.out, L2.out⟩
    · have hi' : ¬ (i : Int) < (n : Int) := by omega
      have hin : i = n := by omega
      have hfin : WbP (l.map (tw upB)) w (.returned (.slice (some ⟨B, 0, none⟩) n n)) wr := by
        have hll : (l.map (tw upB)).length = n := by rw [List.length_map]; exact HL.out
        refine ⟨_, rfl, .inr ⟨B, n, X.toArray, by rw [hll], by rw [HB.out]; exact Nat.le_refl _, KX.out.lt, KX.out, by omega, by unfold maxLen; omega, by have := HXl.out; simp; omega, ?_⟩, by rw [HB.out]; exact KB.out⟩
        rw [hll]
        have := HTd.out.done up_in (by rw [HL.out, hin])
        rw [hin] at this
        simpa using this
      clear KX HTd KB
      go_wp2
      go_ret
      exact hfin
end Go.Proofs.YtppefcnopkmhbaaGreatDoor

namespace Go.Proofs.YtppefcnopkmhbaaGreatDoor
open Go.RowKit

set_option maxRecDepth 8000
/-- what an operator is given -/
def tsk (tv : Value) (at' F T : Int) (L D : Bool) (a b c : Int) : Value := .agg #[tv, .int .i64 at', .int .i64 F, .int .i64 T, .bool L, .bool D, .int .i64 a, .int .i64 b, .int .i64 c]
def tskC (tv : Value) (at' F T : Int) (L D : Bool) (a b c : Int) : Array Value := #[tv, .int .i64 at', .int .i64 F, .int .i64 T, .bool L, .bool D, .int .i64 a, .int .i64 b, .int .i64 c]
/-- how what is taken goes into a register -/
def hwE (L : Bool) (X : List UInt8) : Int := if L || hasL X then 2 else 3
/-- a call that answers an effect with no edit -/
def TkQ (X : List UInt8) (L : Bool) (h : Int) (w : World) (e : Ending) (w' : World) : Prop := ∃ tv, e = .returned (.agg #[.slice none 0 0, .int .i64 0, .bool true, .bool L, tv, .int .i64 h, .bool false]) ∧ Wb w' w.heap.size w'.heap.size tv X ∧ Below w.heap.size w w'
theorem tsk_cells {W : World} {B : Nat} {tv : Value} {at' F T : Int} {L D : Bool} {a b c : Int} (h : Blk W B 90 (tskC tv at' F T L D a b c)) :
    W.cell? ⟨B, 0, none⟩ = some tv ∧ W.cell? ⟨B, 1, none⟩ = some (.int .i64 at') ∧ W.cell? ⟨B, 2, none⟩ = some (.int .i64 F) ∧ W.cell? ⟨B, 3, none⟩ = some (.int .i64 T) ∧ W.cell? ⟨B, 4, none⟩ = some (.bool L) ∧ W.cell? ⟨B, 5, none⟩ = some (.bool D) ∧ W.cell? ⟨B, 6, none⟩ = some (.int .i64 a) ∧ W.cell? ⟨B, 7, none⟩ = some (.int .i64 b) ∧ W.cell? ⟨B, 8, none⟩ = some (.int .i64 c) :=
  ⟨h.cell rfl, h.cell rfl, h.cell rfl, h.cell rfl, h.cell rfl, h.cell rfl, h.cell rfl, h.cell rfl, h.cell rfl⟩
def ef7 (v : Value) (cur : Int) (set lin : Bool) (tv : Value) (how : Int) (typ : Bool) : Array Value := #[v, .int .i64 cur, .bool set, .bool lin, tv, .int .i64 how, .bool typ]
theorem ef_cells {W : World} {B : Nat} {v tv : Value} {cur how : Int} {set lin typ : Bool} (h : Blk W B 35 (ef7 v cur set lin tv how typ)) :
    W.cell? ⟨B, 0, none⟩ = some v ∧ W.cell? ⟨B, 1, none⟩ = some (.int .i64 cur) ∧ W.cell? ⟨B, 2, none⟩ = some (.bool set) ∧ W.cell? ⟨B, 3, none⟩ = some (.bool lin) ∧ W.cell? ⟨B, 4, none⟩ = some tv ∧ W.cell? ⟨B, 5, none⟩ = some (.int .i64 how) ∧ W.cell? ⟨B, 6, none⟩ = some (.bool typ) :=
  ⟨h.cell rfl, h.cell rfl, h.cell rfl, h.cell rfl, h.cell rfl, h.cell rfl, h.cell rfl⟩
theorem ef_frozen {W : World} {B : Nat} {cs : Array Value} (h : Blk W B 35 cs) :
    W.frozen? ⟨B, 0, none⟩ = false ∧ W.frozen? ⟨B, 1, none⟩ = false ∧ W.frozen? ⟨B, 2, none⟩ = false ∧ W.frozen? ⟨B, 3, none⟩ = false ∧ W.frozen? ⟨B, 4, none⟩ = false ∧ W.frozen? ⟨B, 5, none⟩ = false ∧ W.frozen? ⟨B, 6, none⟩ = false :=
  ⟨h.frozen _, h.frozen _, h.frozen _, h.frozen _, h.frozen _, h.frozen _, h.frozen _⟩
/-- the whole effect is stored -/
theorem ef_store {W : World} {B : Nat} {v0 tv0 : Value} {cur0 how0 : Int} {set0 lin0 typ0 : Bool} (h : Blk W B 35 (ef7 v0 cur0 set0 lin0 tv0 how0 typ0)) (x0 x1 x2 x3 x4 x5 x6 : Value) :
    Blk (((((((W.setCell ⟨B, 0, none⟩ x0).setCell ⟨B, 1, none⟩ x1).setCell ⟨B, 2, none⟩ x2).setCell ⟨B, 3, none⟩ x3).setCell ⟨B, 4, none⟩ x4).setCell ⟨B, 5, none⟩ x5).setCell ⟨B, 6, none⟩ x6) B 35 #[x0, x1, x2, x3, x4, x5, x6] := by
  have := ((((((h.set (j := 0) x0).set (j := 1) x1).set (j := 2) x2).set (j := 3) x3).set (j := 4) x4).set (j := 5) x5).set (j := 6) x6
  simpa [ef7] using this
theorem ef_grown (W : World) (B : Nat) (x0 x1 x2 x3 x4 x5 x6 : Value) :
    W.grownBy (((((((W.setCell ⟨B, 0, none⟩ x0).setCell ⟨B, 1, none⟩ x1).setCell ⟨B, 2, none⟩ x2).setCell ⟨B, 3, none⟩ x3).setCell ⟨B, 4, none⟩ x4).setCell ⟨B, 5, none⟩ x5).setCell ⟨B, 6, none⟩ x6) (some B) :=
  ((((((grown_set W B 0 x0).trans (grown_set _ B 1 x1)).trans (grown_set _ B 2 x2)).trans (grown_set _ B 3 x3)).trans (grown_set _ B 4 x4)).trans (grown_set _ B 5 x5)).trans (grown_set _ B 6 x6)
/-- the box of a task and an effect that begins -/
structure Two (w W : World) (tv : Value) (at' F T : Int) (L D : Bool) (a b k : Int) : Prop where
  bel : Below w.heap.size w W
  tk : Blk W w.heap.size 90 (tskC tv at' F T L D a b k)
  ef : Blk W (w.heap.size + 1) 35 (ef7 (.slice none 0 0) 0 false false (.slice none 0 0) 0 false)
theorem Two.new (w : World) (tv : Value) (at' F T : Int) (L D : Bool) (a b k : Int) : Two w ((w.alloc (.cells (tskC tv at' F T L D a b k) 90)).alloc (.cells (ef7 (.slice none 0 0) 0 false false (.slice none 0 0) 0 false) 35)) tv at' F T L D a b k :=
  ⟨bAlloc (bAlloc (Below.refl _ _) _) _, (Blk.new w 90 _).keep (bAlloc (Below.refl _ _) _), by have := Blk.new (w.alloc (.cells (tskC tv at' F T L D a b k) 90)) 35 (ef7 (.slice none 0 0) 0 false false (.slice none 0 0) 0 false); rwa [World.size_alloc] at this⟩
set_option maxHeartbeats 4000000 in
theorem taken_any (ao : Option Addr) (n c f t : Nat) (at' : Int) (L D : Bool) (a b k : Int) (l : List UInt8) (w : World) (HT : Hid (Tx w ao n c l)) (hbig : n ≤ 1048576) (hg : rgB l (f : Int) (t : Int) L D = true) :
    Calls Tryz.prog 98 #[tsk (.slice ao n c) at' (f : Int) (t : Int) L D a b k] w fun e w' => TkQ (tk l f t L D) L (hwE L (tk l f t L D)) w e w' := by
  show Calls Tryz.prog 98 #[.agg #[.slice ao n c, .int .i64 at', .int .i64 (f : Int), .int .i64 (t : Int), .bool L, .bool D, .int .i64 a, .int .i64 b, .int .i64 k]] w _
  obtain ⟨W1, hW1⟩ : ∃ x, (w.alloc (.cells #[.slice ao n c, .int .i64 at', .int .i64 (f : Int), .int .i64 (t : Int), .bool L, .bool D, .int .i64 a, .int .i64 b, .int .i64 k] 90)).alloc (.cells #[.slice none 0 0, .int .i64 0, .bool false, .bool false, .slice none 0 0, .int .i64 0, .bool false] 35) = x := ⟨_, rfl⟩
  have T1 : Hid (Two w W1 (.slice ao n c) at' (f : Int) (t : Int) L D a b k) := by unfold Hid; rw [← hW1]; exact Two.new w _ _ _ _ _ _ _ _ _
  have CT := Hid.mk' (take_yes ao n c f t L D l W1 (by omega) hg (HT.out.keep T1.out.bel))
  have htl : (tk l f t L D).length ≤ n + 1 := by
    have hl := HT.out.len
    unfold tk
    split
    · rw [List.length_append]; unfold tkb; rw [List.length_take, List.length_drop]; simp; omega
    · unfold tkb; rw [List.length_take, List.length_drop]; omega
  unfold hwE
  generalize tk l f t L D = X at *
  have HXL := Hid.mk' htl
  obtain ⟨B, hB⟩ : ∃ b, w.heap.size = b := ⟨_, rfl⟩
  have HB := Hid.mk' hB
  have K1 : Hid (Blk W1 B 90 (tskC (.slice ao n c) at' (f : Int) (t : Int) L D a b k)) := by unfold Hid; rw [← hB]; exact T1.out.tk
  have J1 : Hid (Blk W1 (B + 1) 35 (ef7 (.slice none 0 0) 0 false false (.slice none 0 0) 0 false)) := by unfold Hid; rw [← hB]; exact T1.out.ef
  have L1 := Hid.mk' T1.out.bel
  have J1s : Hid (B + 1 < W1.heap.size) := J1.out.lt
  obtain ⟨c0, c1, c2, c3, c4, c5, c6, c7, c8⟩ := tsk_cells K1.out
  obtain ⟨hh, hhe⟩ : ∃ hh, (if (L || hasL X) = true then (2 : Int) else 3) = hh := ⟨_, rfl⟩
  rw [hhe]
  have HH := Hid.mk' hhe
  clear T1 htl hg HT hhe
  go_enter Tryz.func98, Tryz.ntmps98
  go_upto_region 1 with fail
  clear hW1 hB
  go_wp2_with fail
  refine CT.out.mono ?_
  rintro e w2 ⟨v, rfl, hO, hb2⟩
  unfold tr
  have W2 := Hid.mk' (Wb.new hO)
  have B2 := Hid.mk' hb2
  have K2 := Hid.mk' (K1.out.keep hb2)
  have J2 := Hid.mk' (J1.out.keep hb2)
  clear hO hb2 CT K1 J1 c0 c1 c2 c3 c4 c5 c6 c7 c8
  obtain ⟨p2, d2, rfl⟩ := W2.out.shape
  dsimp only
  obtain ⟨W3, hW3⟩ : ∃ x, w2.alloc (.cells #[.bool true, .bool L, .slice p2 X.length d2] 33) = x := ⟨_, rfl⟩
  obtain ⟨Q, hQ⟩ : ∃ q, w2.heap.size = q := ⟨_, rfl⟩
  have HQ := Hid.mk' hQ
  have hb3 : Below w2.heap.size w2 W3 := by rw [← hW3]; exact bAlloc (Below.refl _ _) _
  have R3 : Hid (Blk W3 Q 33 #[.bool true, .bool L, .slice p2 X.length d2]) := by unfold Hid; rw [← hW3, ← hQ]; exact Blk.new w2 33 _
  have HS3 : Hid (W3.heap.size = Q + 1) := by unfold Hid; rw [← hW3, ← hQ]; exact World.size_alloc _ _
  have K3 := Hid.mk' (K2.out.keep hb3)
  have J3 := Hid.mk' (J2.out.keep hb3)
  have WX3 := Hid.mk' (W2.out.keep hb3)
  have B3 := Hid.mk' (bT L1.out (bT B2.out hb3))
  have HW1 := Hid.mk' L1.out.size
  clear hb3 K2 J2 W2
  go_upto_region 2 with fail
  clear hW3 hQ
  obtain ⟨c0, c1, c2, c3, c4, c5, c6, c7, c8⟩ := tsk_cells K3.out
  have r0 : W3.cell? ⟨Q, 0, none⟩ = some (.bool true) := R3.out.cell rfl
  have r1 : W3.cell? ⟨Q, 1, none⟩ = some (.bool L) := R3.out.cell rfl
  have r2 : W3.cell? ⟨Q, 2, none⟩ = some (.slice p2 X.length d2) := R3.out.cell rfl
  have hfin : ∀ (h : Int) (W4 : World), Below W3.heap.size W3 W4 → TkQ X L h w (.returned (.agg #[.slice none 0 0, .int .i64 0, .bool true, .bool L, .slice p2 X.length d2, .int .i64 h, .bool false])) (((((((W4.setCell ⟨B + 1, 0, none⟩ (.slice none 0 0)).setCell ⟨B + 1, 1, none⟩ (.int .i64 0)).setCell ⟨B + 1, 2, none⟩ (.bool true)).setCell ⟨B + 1, 3, none⟩ (.bool L)).setCell ⟨B + 1, 4, none⟩ (.slice p2 X.length d2)).setCell ⟨B + 1, 5, none⟩ (.int .i64 h)).setCell ⟨B + 1, 6, none⟩ (.bool false)) ∧ Blk (((((((W4.setCell ⟨B + 1, 0, none⟩ (.slice none 0 0)).setCell ⟨B + 1, 1, none⟩ (.int .i64 0)).setCell ⟨B + 1, 2, none⟩ (.bool true)).setCell ⟨B + 1, 3, none⟩ (.bool L)).setCell ⟨B + 1, 4, none⟩ (.slice p2 X.length d2)).setCell ⟨B + 1, 5, none⟩ (.int .i64 h)).setCell ⟨B + 1, 6, none⟩ (.bool false)) (B + 1) 35 (ef7 (.slice none 0 0) 0 true L (.slice p2 X.length d2) h false) := fun h W4 hW => by
    have hg := ef_grown W4 (B + 1) (.slice none 0 0) (.int .i64 0) (.bool true) (.bool L) (.slice p2 X.length d2) (.int .i64 h) (.bool false)
    have hb4 := bT B3.out hW
    have hlt : B + 1 < W1.heap.size := by have := (J1s).out; exact this
    refine ⟨⟨_, rfl, ((WX3.out.keep hW).grown hg (by omega)).wide (by have := HB.out; have := HW1.out; omega) ?_, hb4.grown hg hb4.size (fun g hg' => by injection hg' with hg'; have := HB.out; omega)⟩, ef_store (J3.out.keep hW) _ _ _ _ _ _ _⟩
    have h1 := hW.size
    have h2 := hg.size
    have h3 := HS3.out
    have h4 := HQ.out
    omega
  have HF := Hid.mk' hfin
  clear hfin
  cases L with
  | true =>
    obtain ⟨e0, e1, e2, e3, e4, e5, e6⟩ := ef_cells J3.out
    obtain ⟨f0, f1, f2, f3, f4, f5, f6⟩ := ef_frozen J3.out
    have hF := HF.out 2 W3 (Below.refl _ _)
    obtain rfl : (2 : Int) = hh := HH.out
    obtain ⟨hq1, hq2⟩ := hF
    obtain ⟨g0, g1, g2, g3, g4, g5, g6⟩ := ef_cells hq2
    have HQ1 := Hid.mk' hq1
    clear hq1 hq2
    go_wp2_with fail
    exact bodyPost_ret (v := .agg #[.slice none 0 0, .int .i64 0, .bool true, .bool true, .slice p2 X.length d2, .int .i64 2, .bool false]) (by simp [results, Tryz.results98, go_sem, g0, g1, g2, g3, g4, g5, g6]) rfl HQ1.out
  | false =>
    obtain ⟨W4, hW4⟩ : ∃ x, W3.alloc (.cells #[.int .u8 10] 5) = x := ⟨_, rfl⟩
    obtain ⟨Z, hZ⟩ : ∃ q, W3.heap.size = q := ⟨_, rfl⟩
    have hb4 : Below W3.heap.size W3 W4 := by rw [← hW4]; exact bAlloc (Below.refl _ _) _
    have N4 : Hid (Blk W4 Z 5 #[.int .u8 10]) := by unfold Hid; rw [← hW4, ← hZ]; exact Blk.new W3 5 _
    have CC := Hid.mk' (contains_any p2 X.length d2 Z X W4 ((WX3.out.keep hb4).tx (by have := HXL.out; omega)) (N4.out.cell rfl))
    have J4 := Hid.mk' (J3.out.keep hb4)
    have R4 := Hid.mk' (R3.out.keep hb4)
    have hF := HF.out hh W4 hb4
    have HH2 : Hid ((if hasL X = true then (2 : Int) else 3) = hh) := HH.out
    clear hb4 HF HH
    go_upto_if 21 with (first | (go_at_call 86; refine CC.out.mono ?_; rintro e w5 ⟨rfl, hw⟩; have hq := hw.symm; subst hq; clear hw) | fail)
    clear hW4 hZ c0 c1 c2 c3 c4 c5 c6 c7 c8 r0 r1 r2
    obtain ⟨e0, e1, e2, e3, e4, e5, e6⟩ := ef_cells J4.out
    obtain ⟨f0, f1, f2, f3, f4, f5, f6⟩ := ef_frozen J4.out
    have r0 : W4.cell? ⟨Q, 0, none⟩ = some (.bool true) := R4.out.cell rfl
    have r1 : W4.cell? ⟨Q, 1, none⟩ = some (.bool false) := R4.out.cell rfl
    have r2 : W4.cell? ⟨Q, 2, none⟩ = some (.slice p2 X.length d2) := R4.out.cell rfl
    generalize hasL X = q at *
    cases q with
    | true =>
      obtain rfl : (2 : Int) = hh := HH2.out
      obtain ⟨hq1, hq2⟩ := hF
      obtain ⟨g0, g1, g2, g3, g4, g5, g6⟩ := ef_cells hq2
      have HQ1 := Hid.mk' hq1
      clear hq1 hq2
      go_wp2_with fail
      exact bodyPost_ret (v := .agg #[.slice none 0 0, .int .i64 0, .bool true, .bool false, .slice p2 X.length d2, .int .i64 2, .bool false]) (by simp [results, Tryz.results98, go_sem, g0, g1, g2, g3, g4, g5, g6]) rfl HQ1.out
    | false =>
      obtain rfl : (3 : Int) = hh := HH2.out
      obtain ⟨hq1, hq2⟩ := hF
      obtain ⟨g0, g1, g2, g3, g4, g5, g6⟩ := ef_cells hq2
      have HQ1 := Hid.mk' hq1
      clear hq1 hq2
      go_wp2_with fail
      exact bodyPost_ret (v := .agg #[.slice none 0 0, .int .i64 0, .bool true, .bool false, .slice p2 X.length d2, .int .i64 3, .bool false]) (by simp [results, Tryz.results98, go_sem, g0, g1, g2, g3, g4, g5, g6]) rfl HQ1.out
end Go.Proofs.YtppefcnopkmhbaaGreatDoor

namespace Go.Proofs.YtppefcnopkmhbaaGreatDoor
open Go.RowKit

set_option maxRecDepth 8000
/-- the cursor of what leaves it in its column -/
def hmc (l : List UInt8) (k f : Nat) (L : Bool) (a : Int) : Int := if L then (aAt l a (aCol l (k : Int)).1).1 else (f : Int)
theorem aCol_is {l : List UInt8} {k : Nat} (h : k ≤ l.length) : aCol l (k : Int) = (((k - bg l k : Nat) : Int), 0) := by
  unfold aCol ans plB
  rw [decide_eq_true (show (0 : Int) ≤ (k : Int) ∧ (k : Int) ≤ (l.length : Int) by omega), if_pos rfl]
  rfl
set_option maxHeartbeats 4000000 in
theorem home_any (ao : Option Addr) (n c k f : Nat) (T : Int) (L D : Bool) (a b q : Int) (l : List UInt8) (w : World) (HT : Hid (Tx w ao n c l)) (hk : k ≤ n) (ha : a ≤ 9223372036854775807) :
    Calls Tryz.prog 101 #[tsk (.slice ao n c) (k : Int) (f : Int) T L D a b q] w fun e w' => e = .returned (.int .i64 (hmc l k f L a)) ∧ Below w.heap.size w w' := by
  show Calls Tryz.prog 101 #[.agg #[.slice ao n c, .int .i64 (k : Int), .int .i64 (f : Int), .int .i64 T, .bool L, .bool D, .int .i64 a, .int .i64 b, .int .i64 q]] w _
  obtain ⟨W1, hW1⟩ : ∃ x, w.alloc (.cells #[.slice ao n c, .int .i64 (k : Int), .int .i64 (f : Int), .int .i64 T, .bool L, .bool D, .int .i64 a, .int .i64 b, .int .i64 q] 90) = x := ⟨_, rfl⟩
  have K1 : Hid (Blk W1 w.heap.size 90 (tskC (.slice ao n c) (k : Int) (f : Int) T L D a b q)) := by unfold Hid; rw [← hW1]; exact Blk.new w 90 _
  have L1 : Hid (Below w.heap.size w W1) := by unfold Hid; rw [← hW1]; exact bAlloc (Below.refl _ _) _
  have hlen := HT.out.len
  have hbig := HT.out.big
  have hT1 := HT.out.keep L1.out
  have C1 := column_any ao n c (k : Int) l W1 hT1
  unfold hmc
  rw [aCol_is (by omega)] at C1 ⊢
  unfold pr at C1
  dsimp only at C1 ⊢
  have C2 := lat_any ao n c a ((k - bg l k : Nat) : Int) l W1 ha (by omega) hT1
  generalize ((k - bg l k : Nat) : Int) = col at *
  generalize aAt l a col = y at *
  obtain ⟨y1, y2⟩ := y
  unfold pr at C2
  dsimp only at C2 ⊢
  have D1 := Hid.mk' C1
  have D2 := Hid.mk' C2
  obtain ⟨B, hB⟩ : ∃ b, w.heap.size = b := ⟨_, rfl⟩
  rw [hB] at K1
  obtain ⟨c0, c1, c2, c3, c4, c5, c6, c7, c8⟩ := tsk_cells K1.out
  obtain ⟨z, hz⟩ : ∃ z, (if L = true then y1 else (f : Int)) = z := ⟨_, rfl⟩
  rw [hz]
  have HZ := Hid.mk' hz
  clear hT1 C1 C2 hz
  cases L with
  | true =>
    obtain rfl : y1 = z := HZ.out
    go_enter Tryz.func101, Tryz.ntmps101
    go_wp2_with (first | (go_at_call 130; refine D1.out.mono ?_; rintro e w' ⟨rfl, hw⟩; have hq := hw.symm; subst hq; clear hw) | (go_at_call 131; refine D2.out.mono ?_; rintro e w' ⟨rfl, hw⟩; have hq := hw.symm; subst hq; clear hw) | fail)
    go_ret
    exact ⟨rfl, L1.out⟩
  | false =>
    obtain rfl : (f : Int) = z := HZ.out
    go_enter Tryz.func101, Tryz.ntmps101
    go_wp2_with fail
    go_ret
    exact ⟨rfl, L1.out⟩
end Go.Proofs.YtppefcnopkmhbaaGreatDoor
