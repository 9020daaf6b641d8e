/- Fpd, Rjn -/
import Derived.Test.YtppefcnopkmhbaaGreatDoorPt39
import Derived.Test.YtppefcnopkmhbaaGreatDoorPt36
import Derived.Test.YtppefcnopkmhbaaGreatDoorPt06
namespace Go.Proofs.YtppefcnopkmhbaaGreatDoor
open Go.RowKit

set_option maxRecDepth 8000
theorem shf_bounds {hd : List UInt8 → Nat × Nat} (h2 : ∀ p, (hd p).2 ≤ 9999) (l : List UInt8) : ∀ (m i : Nat) (g : Int) (D : List Ed), shf hd l m i g = some D → D.length ≤ m ∧ nsum D ≤ 9999 * m
  | 0, _, _, D, h => by injection h with h; subst h; exact ⟨Nat.le_refl _, Nat.le_refl _⟩
  | m + 1, i, g, D, h => by
    unfold shf at h
    split at h
    · cases h
    · obtain ⟨D', hD', rfl⟩ := Option.map_eq_some_iff.1 h
      obtain ⟨e1, e2⟩ := shf_bounds h2 l m (i + 1) _ D' hD'
      have := h2 (ln l i)
      have e : ((List.map (fun d => d.N.length) (if 0 < (hd (ln l i)).1 + (hd (ln l i)).2 then [(⟨(sp l i : Int) + g, (ln l i).take (hd (ln l i)).1, rp [9] (hd (ln l i)).2⟩ : Ed)] else [])).sum) ≤ 9999 := by
        split
        · simp [rp9_len]; omega
        · simp
      refine ⟨?_, ?_⟩
      · rw [List.length_append]; split <;> simp <;> omega
      · unfold nsum at e2 ⊢
        rw [List.map_append, List.sum_append]
        omega
theorem shX_fit {hd : List UInt8 → Nat × Nat} {l : List UInt8} (hl : l.length ≤ 65536) (h1 : ∀ p, (hd p).1 ≤ p.length) (h2 : ∀ p, (hd p).2 ≤ 9999) {a b : Nat} (hab : a ≤ b) (hb : b ≤ nl l) : FitB l (shX l (shf hd l (b + 1 - a) a 0) a) := by
  cases h : shf hd l (b + 1 - a) a 0 with
  | none => exact FitB.no (by decide)
  | some D =>
    obtain ⟨e1, e2⟩ := shf_bounds h2 l _ _ _ _ h
    have ha := app_lines h1 (a := a) (m := b + 1 - a) (by omega) (by omega) h
    have hf := shf_first h1 (a := a) (m := b + 1 - a) (by omega) (by omega) h
    have hc := fbh_le l D a
    have hn := nl_le l
    refine ⟨.inr ⟨rfl, _, ha, ?_, ?_⟩, ?_, ?_⟩
    · show 0 ≤ fbh l (D.take 1) a; rw [hf]; exact hc.1
    · show fbh l (D.take 1) a ≤ _; rw [hf]; have := hc.2; unfold apU at this; rw [ha] at this; exact this
    · show nsum D ≤ _; omega
    · show D.length ≤ _; omega
theorem hmc_le {l : List UInt8} {k f : Nat} {L : Bool} {a : Int} (hf : f ≤ l.length) : 0 ≤ hmc l k f L a ∧ hmc l k f L a ≤ (l.length : Int) := by
  unfold hmc
  split
  · exact aAt_le _ _ _
  · omega
theorem le_fit {g : Int → Int} {l : List UInt8} {k f t a : Nat} {L : Bool} (hl : l.length ≤ 65536) (hft : f ≤ t) (ht : t ≤ l.length) : FitB l (leEf g l k f t L a, 0) := by
  have h := hmc_le (l := l) (k := k) (f := f) (L := L) (a := (a : Int)) (by omega)
  have e : ((sl l f t).map (tw g)).length = t - f := by rw [List.length_map, sl_len ht]
  exact FitB.sw (Y := (sl l f t).map (tw g)) rfl hft ht (by omega) h.1 (by have := h.2; show hmc l k f L (a : Int) ≤ _; omega)
theorem do_fit {l : List UInt8} (hl : l.length ≤ 65536) (at' : Int) (s : ByteArray) (F T : Int) (L D : Bool) (q : Int) : FitB l (doX l at' s F T L D q) := by
  unfold doX
  split
  · exact FitB.no (by decide)
  rename_i h
  split
  · exact FitB.no (by decide)
  have hl9 : (lnO l at'.toNat F T L D).2.2 = true := by
    cases e : (lnO l at'.toNat F T L D).2.2 with
    | true => rfl
    | false => exact absurd (.inr (.inr (.inr e))) h
  obtain ⟨f, t, a, b, R⟩ := lnO_ok hl9
  have e1 := R.eF
  have e2 := R.eT
  subst e1 e2
  rw [R.eX]
  rw [show ((f : Int)).toNat = f from rfl, show ((t : Int)).toNat = t from rfl, show ((a : Int)).toNat = a from rfl, show ((b : Int)).toNat = b from rfl]
  have hft := R.ft
  have htn := R.tn
  have hab := R.ab
  have hbn := R.bn
  have hsb := sp_le (t := l) hbn
  have hsa := sp_mono (l := l) hab hbn
  have heb := en_le hsb
  have heg := en_ge l (sp l b)
  generalize at'.toNat = k
  have hq : q.toNat ≤ 9999 := by
    rcases Int.lt_or_le 9999 q with hq | hq
    · exact absurd (.inr (.inr (.inl (by omega)))) h
    · omega
  generalize q.toNat = q' at *
  unfold opX
  split
  · unfold rEf
    refine FitB.sw rfl hft htn (by simp) ?_ ?_
    · show 0 ≤ rmC l (sw l f t []) f L a
      unfold rmC
      split
      · exact (fbh_sw hft htn).1
      · omega
    · show rmC l (sw l f t []) f L a ≤ _
      unfold rmC
      split
      · exact (fbh_sw hft htn).2
      · simp; omega
  split
  · unfold cEf
    split
    · exact FitB.sw rfl (by omega) heb (by simp) (by show (0 : Int) ≤ (sp l a : Int); omega) (by show (sp l a : Int) ≤ _; simp; omega)
    split
    · exact FitB.none rfl (by show (0 : Int) ≤ (f : Int); omega) (by show (f : Int) ≤ _; omega)
    · exact FitB.sw rfl hft htn (by simp) (by show (0 : Int) ≤ (f : Int); omega) (by show (f : Int) ≤ _; simp; omega)
  split
  · have hh := hmc_le (l := l) (k := k) (f := f) (L := L) (a := (a : Int)) (by omega)
    exact FitB.none rfl hh.1 hh.2
  split
  · exact shX_fit hl (fun p => (hdI_le q' p hq).1) (fun p => (hdI_le q' p hq).2) hab hbn
  split
  · exact shX_fit hl (fun p => (hdO_le q' p hq).1) (fun p => (hdO_le q' p hq).2) hab hbn
  split
  · exact le_fit hl hft htn
  split
  · exact le_fit hl hft htn
  · exact le_fit hl hft htn
end Go.Proofs.YtppefcnopkmhbaaGreatDoor

namespace Go.Proofs.YtppefcnopkmhbaaGreatDoor
open Go.RowKit

set_option maxRecDepth 8000
end Go.Proofs.YtppefcnopkmhbaaGreatDoor
