/- letters, pure. -/
import Derived.Test.YtppefcnopkmhbaaDoorPa23
namespace Go.Proofs.YtppefcnopkmhbaaDoor
open Go.RowKit

set_option maxRecDepth 8000
theorem app_sw {l : List UInt8} {f t : Nat} (hft : f ≤ t) (ht : t ≤ l.length) (Y : List UInt8) : app l (sw l f t Y) = some (l.take f ++ Y ++ l.drop t) := by
  have hs : sl l f t = (l.drop f).take (t - f) := rfl
  have hj : l.take f ++ sl l f t ++ l.drop t = l := by
    have e := sl_app l (Nat.zero_le f) hft
    rw [List.append_assoc, hs]
    have : (l.drop f).take (t - f) ++ l.drop t = l.drop f := by
      conv => rhs; rw [← List.take_append_drop (t - f) (l.drop f)]
      rw [List.drop_drop]
      congr 2; omega
    rw [this, List.take_append_drop]
  unfold sw
  split
  · rename_i h
    rw [← h, hj]
    rfl
  · have hl : (sl l f t).length = t - f := sl_len (by omega)
    have hfit : fitB l ⟨(f : Int), sl l f t, Y⟩ = true := by
      refine fitB_iff.2 ⟨f, rfl, by omega, ?_⟩
      show (l.drop f).take (sl l f t).length = sl l f t
      rw [hl]
      rfl
    show (if fitB l ⟨(f : Int), sl l f t, Y⟩ = true then app (stp l ⟨(f : Int), sl l f t, Y⟩) [] else none) = _
    rw [if_pos hfit]
    show some (l.take (f : Int).toNat ++ Y ++ l.drop ((f : Int).toNat + (sl l f t).length)) = _
    rw [hl, show (f : Int).toNat = f from rfl, show f + (t - f) = t by omega]
theorem apU_sw {l : List UInt8} {f t : Nat} (hft : f ≤ t) (ht : t ≤ l.length) (Y : List UInt8) : apU l (sw l f t Y) = l.take f ++ Y ++ l.drop t ∧ apE l (sw l f t Y) = 0 := by
  unfold apU apE
  rw [app_sw hft ht]
  exact ⟨rfl, rfl⟩
/-- letters of a range through a function -/
def cs (g : Int → Int) (l : List UInt8) (f t : Nat) : List UInt8 := l.take f ++ (sl l f t).map (tw g) ++ l.drop t
theorem cs_len {g : Int → Int} {l : List UInt8} {f t : Nat} (hft : f ≤ t) (ht : t ≤ l.length) : (cs g l f t).length = l.length := by
  unfold cs
  rw [List.length_append, List.length_append, List.length_map, List.length_take, List.length_drop, sl_len (by omega)]
  omega
theorem cs_sl {g : Int → Int} {l : List UInt8} {f t : Nat} (hft : f ≤ t) (ht : t ≤ l.length) : sl (cs g l f t) f t = (sl l f t).map (tw g) := by
  have h1 : (l.take f).length = f := by rw [List.length_take]; omega
  have h2 : ((sl l f t).map (tw g)).length = t - f := by rw [List.length_map, sl_len (by omega)]
  unfold cs
  show (((l.take f ++ (sl l f t).map (tw g)) ++ l.drop t).drop f).take (t - f) = _
  rw [List.append_assoc, List.drop_append_of_le_length (by omega), List.drop_of_length_le (by omega), List.nil_append, List.take_append_of_le_length (by omega), List.take_of_length_le (by omega)]
theorem cs_take {g : Int → Int} {l : List UInt8} {f t : Nat} (hft : f ≤ t) (ht : t ≤ l.length) : (cs g l f t).take f = l.take f := by
  have h1 : (l.take f).length = f := by rw [List.length_take]; omega
  unfold cs
  rw [List.append_assoc, List.take_append_of_le_length (by omega), List.take_of_length_le (by omega)]
theorem cs_drop {g : Int → Int} {l : List UInt8} {f t : Nat} (hft : f ≤ t) (ht : t ≤ l.length) : (cs g l f t).drop t = l.drop t := by
  have h1 : (l.take f ++ (sl l f t).map (tw g)).length = t := by rw [List.length_append, List.length_map, List.length_take, sl_len (by omega)]; omega
  unfold cs
  rw [List.drop_append_of_le_length (by omega), List.drop_of_length_le (by omega), List.nil_append]
theorem tw_tw (b : UInt8) : tw tgB (tw tgB b) = b := by
  have h1 := tw_nat tg_in (tw tgB b)
  have h2 := tw_nat tg_in b
  rw [h2, tg_tg] at h1
  exact UInt8.toNat_inj.1 (by omega)
theorem cs_back {l : List UInt8} {f t : Nat} (hft : f ≤ t) (ht : t ≤ l.length) : (cs tgB l f t).take f ++ (sl (cs tgB l f t) f t).map (tw tgB) ++ (cs tgB l f t).drop t = l := by
  rw [cs_take hft ht, cs_drop hft ht, cs_sl hft ht, List.map_map, show tw tgB ∘ tw tgB = id from funext tw_tw, List.map_id]
  have : sl l f t ++ l.drop t = l.drop f := by
    show (l.drop f).take (t - f) ++ l.drop t = _
    conv => rhs; rw [← List.take_append_drop (t - f) (l.drop f)]
    rw [List.drop_drop]
    congr 2; omega
  rw [List.append_assoc, this, List.take_append_drop]
theorem cs_in {g : Int → Int} {l : List UInt8} {f t i : Nat} (ht : t ≤ l.length) (h1 : f ≤ i) (h2 : i < t) : at8 (cs g l f t) i = tw g (at8 l i) := by
  have hl1 : (l.take f).length = f := by rw [List.length_take]; omega
  have hl2 : ((sl l f t).map (tw g)).length = t - f := by rw [List.length_map, sl_len (by omega)]
  unfold cs at8
  rw [List.append_assoc, List.getD_eq_getElem?_getD, List.getElem?_append_right (by omega), List.getElem?_append_left (by omega), List.getElem?_map]
  unfold sl
  rw [List.getElem?_take_of_lt (by omega), List.getElem?_drop, hl1, show f + (i - f) = i by omega, List.getElem?_eq_getElem (by omega), List.getD_eq_getElem?_getD, List.getElem?_eq_getElem (by omega)]
  rfl
theorem cs_out {g : Int → Int} {l : List UInt8} {f t i : Nat} (hft : f ≤ t) (ht : t ≤ l.length) (h : i < f ∨ t ≤ i) : at8 (cs g l f t) i = at8 l i := by
  have hl1 : (l.take f).length = f := by rw [List.length_take]; omega
  have hl2 : ((sl l f t).map (tw g)).length = t - f := by rw [List.length_map, sl_len (by omega)]
  unfold cs at8
  rw [List.append_assoc, List.getD_eq_getElem?_getD, List.getD_eq_getElem?_getD]
  congr 1
  rcases h with h | h
  · rw [List.getElem?_append_left (by omega), List.getElem?_take_of_lt h]
  · rw [List.getElem?_append_right (by omega), List.getElem?_append_right (by omega), List.getElem?_drop, hl1, hl2]
    congr 1; omega
/-- what Do answers to letters of bytes -/
theorem do_let {l : List UInt8} {f t o : Nat} {s : ByteArray} (hft : f ≤ t) (ht : t ≤ l.length) (hs : kn s = o) (ho : 6 ≤ o) :
    doX l (f : Int) s (f : Int) (t : Int) false false 1 = if f = t then (ef0, 190) else
      (⟨sw l f t ((sl l f t).map (tw (if o = 6 then tgB else if o = 7 then loB else upB))), (f : Int), false, false, [], 0, false⟩, 0) := by
  have hln : lnO l f (f : Int) (t : Int) false false = ((nl (l.take f) : Int), (nl (l.take (max (f : Int) ((t : Int) - 1)).toNat) : Int), true) := by
    unfold lnO
    rw [if_neg (by omega), if_pos rfl]
    rfl
  unfold doX
  rw [show ((f : Int)).toNat = f from rfl, hln, hs]
  rw [if_neg (by
    rintro (h | h | h | h)
    · omega
    · exact h ⟨by omega, by omega⟩
    · exact h ⟨by omega, by omega⟩
    · cases h)]
  have hi : idl (o == 1) (o == 2) false = true := by
    have h2 : (o == 2) = false := beq_eq_false_iff_ne.2 (by omega)
    unfold idl
    rw [h2]; rfl
  by_cases he : f = t
  · rw [if_pos ⟨by omega, hi⟩, if_pos he]
  · rw [if_neg (fun h => he (by omega)), if_neg he]
    unfold opX leEf
    rw [if_neg (by omega), if_neg (by omega), if_neg (by omega), if_neg (by omega), if_neg (by omega)]
    by_cases h6 : o = 6
    · rw [if_pos h6, if_pos h6]; rfl
    · rw [if_neg h6, if_neg h6]
      by_cases h7 : o = 7
      · rw [if_pos h7, if_pos h7]; rfl
      · rw [if_neg h7, if_neg h7]; rfl
end Go.Proofs.YtppefcnopkmhbaaDoor
