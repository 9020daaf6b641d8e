/- Fpd, Smc, Ftx -/
import Derived.Test.YtppefcnopkmhbaaGreatDoorPa29
namespace Go.Proofs.YtppefcnopkmhbaaGreatDoor
open Go.RowKit

set_option maxRecDepth 8000
theorem shf_bounds {hd : List UInt8 → Nat × Nat} (h2 : ∀ p, (hd p).2 ≤ 9999) (l : List UInt8) : ∀ (m i : Nat) (g : Int) (D : List Ed), shf hd l m i g = some D → D.length ≤ m ∧ nsum D ≤ 9999 * m
  | 0, _, _, D, h => by injection h with h; subst h; exact ⟨Nat.le_refl _, Nat.le_refl _⟩
  | m + 1, i, g, D, h => by
    unfold shf at h
    split at h
    · cases h
    · obtain ⟨D', hD', rfl⟩ := Option.map_eq_some_iff.1 h
      obtain ⟨e1, e2⟩ := shf_bounds h2 l m (i + 1) _ D' hD'
      have := h2 (ln l i)
      have e : ((List.map (fun d => d.N.length) (if 0 < (hd (ln l i)).1 + (hd (ln l i)).2 then [(⟨(sp l i : Int) + g, (ln l i).take (hd (ln l i)).1, rp [9] (hd (ln l i)).2⟩ : Ed)] else [])).sum) ≤ 9999 := by
        split
        · simp [rp9_len]; omega
        · simp
      refine ⟨?_, ?_⟩
      · rw [List.length_append]; split <;> simp <;> omega
      · unfold nsum at e2 ⊢
        rw [List.map_append, List.sum_append]
        omega
theorem shX_fit {hd : List UInt8 → Nat × Nat} {l : List UInt8} (hl : l.length ≤ 65536) (h1 : ∀ p, (hd p).1 ≤ p.length) (h2 : ∀ p, (hd p).2 ≤ 9999) {a b : Nat} (hab : a ≤ b) (hb : b ≤ nl l) : FitB l (shX l (shf hd l (b + 1 - a) a 0) a) := by
  cases h : shf hd l (b + 1 - a) a 0 with
  | none => exact FitB.no (by decide)
  | some D =>
    obtain ⟨e1, e2⟩ := shf_bounds h2 l _ _ _ _ h
    have ha := app_lines h1 (a := a) (m := b + 1 - a) (by omega) (by omega) h
    have hf := shf_first h1 (a := a) (m := b + 1 - a) (by omega) (by omega) h
    have hc := fbh_le l D a
    have hn := nl_le l
    refine ⟨.inr ⟨rfl, _, ha, ?_, ?_⟩, ?_, ?_⟩
    · show 0 ≤ fbh l (D.take 1) a; rw [hf]; exact hc.1
    · show fbh l (D.take 1) a ≤ _; rw [hf]; have := hc.2; unfold apU at this; rw [ha] at this; exact this
    · show nsum D ≤ _; omega
    · show D.length ≤ _; omega
theorem hmc_le {l : List UInt8} {k f : Nat} {L : Bool} {a : Int} (hf : f ≤ l.length) : 0 ≤ hmc l k f L a ∧ hmc l k f L a ≤ (l.length : Int) := by
  unfold hmc
  split
  · exact aAt_le _ _ _
  · omega
theorem le_fit {g : Int → Int} {l : List UInt8} {k f t a : Nat} {L : Bool} (hl : l.length ≤ 65536) (hft : f ≤ t) (ht : t ≤ l.length) : FitB l (leEf g l k f t L a, 0) := by
  have h := hmc_le (l := l) (k := k) (f := f) (L := L) (a := (a : Int)) (by omega)
  have e : ((sl l f t).map (tw g)).length = t - f := by rw [List.length_map, sl_len ht]
  exact FitB.sw (Y := (sl l f t).map (tw g)) rfl hft ht (by omega) h.1 (by have := h.2; show hmc l k f L (a : Int) ≤ _; omega)
theorem do_fit {l : List UInt8} (hl : l.length ≤ 65536) (at' : Int) (s : ByteArray) (F T : Int) (L D : Bool) (q : Int) : FitB l (doX l at' s F T L D q) := by
  unfold doX
  split
  · exact FitB.no (by decide)
  rename_i h
  split
  · exact FitB.no (by decide)
  have hl9 : (lnO l at'.toNat F T L D).2.2 = true := by
    cases e : (lnO l at'.toNat F T L D).2.2 with
    | true => rfl
    | false => exact absurd (.inr (.inr (.inr e))) h
  obtain ⟨f, t, a, b, R⟩ := lnO_ok hl9
  have e1 := R.eF
  have e2 := R.eT
  subst e1 e2
  rw [R.eX]
  rw [show ((f : Int)).toNat = f from rfl, show ((t : Int)).toNat = t from rfl, show ((a : Int)).toNat = a from rfl, show ((b : Int)).toNat = b from rfl]
  have hft := R.ft
  have htn := R.tn
  have hab := R.ab
  have hbn := R.bn
  have hsb := sp_le (t := l) hbn
  have hsa := sp_mono (l := l) hab hbn
  have heb := en_le hsb
  have heg := en_ge l (sp l b)
  generalize at'.toNat = k
  have hq : q.toNat ≤ 9999 := by
    rcases Int.lt_or_le 9999 q with hq | hq
    · exact absurd (.inr (.inr (.inl (by omega)))) h
    · omega
  generalize q.toNat = q' at *
  unfold opX
  split
  · unfold rEf
    refine FitB.sw rfl hft htn (by simp) ?_ ?_
    · show 0 ≤ rmC l (sw l f t []) f L a
      unfold rmC
      split
      · exact (fbh_sw hft htn).1
      · omega
    · show rmC l (sw l f t []) f L a ≤ _
      unfold rmC
      split
      · exact (fbh_sw hft htn).2
      · simp; omega
  split
  · unfold cEf
    split
    · exact FitB.sw rfl (by omega) heb (by simp) (by show (0 : Int) ≤ (sp l a : Int); omega) (by show (sp l a : Int) ≤ _; simp; omega)
    split
    · exact FitB.none rfl (by show (0 : Int) ≤ (f : Int); omega) (by show (f : Int) ≤ _; omega)
    · exact FitB.sw rfl hft htn (by simp) (by show (0 : Int) ≤ (f : Int); omega) (by show (f : Int) ≤ _; simp; omega)
  split
  · have hh := hmc_le (l := l) (k := k) (f := f) (L := L) (a := (a : Int)) (by omega)
    exact FitB.none rfl hh.1 hh.2
  split
  · exact shX_fit hl (fun p => (hdI_le q' p hq).1) (fun p => (hdI_le q' p hq).2) hab hbn
  split
  · exact shX_fit hl (fun p => (hdO_le q' p hq).1) (fun p => (hdO_le q' p hq).2) hab hbn
  split
  · exact le_fit hl hft htn
  split
  · exact le_fit hl hft htn
  · exact le_fit hl hft htn
theorem plP_le (l : List UInt8) (i : Nat) : plP l i ≤ l.length := by
  unfold plP
  split
  · rename_i h; exact sp_le h
  · exact Nat.le_refl _
theorem put_fit {l : List UInt8} (at' q : Int) (set lin : Bool) (X : List UInt8) (ah : Bool) : FitB l (ptX l at' q set lin X ah) := by
  unfold ptX
  split
  · exact FitB.no (by decide)
  rename_i h
  split
  · exact FitB.no (by decide)
  obtain ⟨k, hk⟩ : ∃ k : Nat, at' = (k : Int) := ⟨at'.toNat, by by_cases h2 : (0 ≤ at' ∧ at' ≤ (l.length : Int)); omega; exact absurd (fun h3 => h2 h3.1) h⟩
  have hkl : k ≤ l.length := by by_cases h2 : (0 ≤ at' ∧ at' ≤ (l.length : Int)); omega; exact absurd (fun h3 => h2 h3.1) h
  rw [hk, show ((k : Int)).toNat = k from rfl]
  unfold ptM
  split
  · exact FitB.no (by decide)
  rename_i hlen
  have hY : (rp (ptT lin X) q.toNat).length ≤ 65536 := by
    rw [rp_len]
    have h1 : (ptT lin X).length ≤ 65536 / q.toNat := Nat.le_of_not_lt hlen
    exact Nat.le_trans (Nat.mul_le_mul_right _ h1) (Nat.div_mul_le_self _ _)
  generalize rp (ptT lin X) q.toNat = Y at *
  split
  · unfold plX
    have hp := plP_le l (plI l k ah)
    have hy : (plY l (plI l k ah) Y).length ≤ 65537 := by
      unfold plY
      split
      · omega
      · simp; omega
    exact FitB.sw rfl (Nat.le_refl _) hp (by omega) (fbh_sw (Nat.le_refl _) hp).1 (fbh_sw (Nat.le_refl _) hp).2
  · unfold pbX
    split
    · exact FitB.none rfl (by show (0 : Int) ≤ (k : Int); omega) (by show (k : Int) ≤ _; omega)
    · rename_i h0
      have hp : (if ah = true then k else bsd l k) ≤ l.length := by
        split
        · exact hkl
        · exact bsd_le hkl
      generalize (if ah = true then k else bsd l k) = p at *
      dsimp only
      refine FitB.sw rfl (Nat.le_refl _) hp (by omega) ?_ ?_
      · dsimp only; split <;> omega
      · dsimp only; split <;> omega
theorem ov_fit {l : List UInt8} (at' q : Int) (b : UInt8) : FitB l (ovX l at' q b) := by
  unfold ovX
  split
  · exact FitB.no (by decide)
  rename_i h
  have h3 : (0 ≤ at' ∧ at' ≤ (l.length : Int)) ∧ cntB q = true := Classical.not_not.1 h
  have hq2 : 1 ≤ q ∧ q ≤ 9999 := by have := h3.2; unfold cntB at this; simp at this; exact this
  obtain ⟨k, hk⟩ : ∃ k : Nat, at' = (k : Int) := ⟨at'.toNat, by omega⟩
  obtain ⟨m, hm⟩ : ∃ m : Nat, q = (m : Int) := ⟨q.toNat, by omega⟩
  subst hk hm
  rw [show ((k : Int)).toNat = k from rfl, show ((m : Int)).toNat = m from rfl]
  have hol := ow_le (l := l) (i := k) (by omega)
  unfold ovM
  split
  · exact FitB.no (by decide)
  split
  · exact FitB.sw rfl (by omega) (by omega) (by simp) (by show (0 : Int) ≤ (k : Int) + 1; omega) (by show (k : Int) + 1 ≤ _; simp; omega)
  · have e : (rp [b] m).length = m := by rw [rp_len]; simp
    exact FitB.sw rfl (by omega) (by omega) (by omega) (by show (0 : Int) ≤ (k : Int) + (m : Int) - 1; omega) (by show (k : Int) + (m : Int) - 1 ≤ _; omega)
theorem tu_fit {l : List UInt8} (hl : l.length ≤ 65536) (at' q : Int) : FitB l (tuX l at' q) := by
  unfold tuX
  split
  · exact FitB.no (by decide)
  rename_i h
  have h3 : (0 ≤ at' ∧ at' ≤ (l.length : Int)) ∧ cntB q = true := Classical.not_not.1 h
  obtain ⟨k, hk⟩ : ∃ k : Nat, at' = (k : Int) := ⟨at'.toNat, by omega⟩
  subst hk
  rw [show ((k : Int)).toNat = k from rfl]
  have hol := ow_le (l := l) (i := k) (by omega)
  unfold tuM
  split
  · exact FitB.no (by decide)
  obtain ⟨t, ht⟩ : ∃ t, k + min q.toNat (ow l k) = t := ⟨_, rfl⟩
  rw [ht]
  have e : ((sl l k t).map (tw tgB)).length = t - k := by rw [List.length_map, sl_len (by omega)]
  exact FitB.sw rfl (by omega) (by omega) (by omega) (by show (0 : Int) ≤ (t : Int); omega) (by show (t : Int) ≤ _; omega)
theorem en_fit {l : List UInt8} (at' : Int) (s : ByteArray) : FitB l (enX l at' s) := by
  unfold enX
  split
  · exact FitB.no (by decide)
  rename_i h
  have h3 := Classical.not_not.1 h
  obtain ⟨k, hk⟩ : ∃ k : Nat, at' = (k : Int) := ⟨at'.toNat, by omega⟩
  subst hk
  rw [show ((k : Int)).toNat = k from rfl]
  have h1 := nl_take_le l k
  have h2 := sp_le (t := l) h1
  have h4 := en_le h2
  have h5 := bsd_le (l := l) (k := k) (by omega)
  have h6 := aFirst_le l (nl (l.take k) : Int)
  unfold enM
  dsimp only
  split
  · exact FitB.none rfl (by show (0 : Int) ≤ (k : Int); omega) (by show (k : Int) ≤ _; omega)
  split
  · exact FitB.none rfl (by show (0 : Int) ≤ (bsd l k : Int); omega) (by show (bsd l k : Int) ≤ _; omega)
  split
  · exact FitB.none rfl h6.1 h6.2
  split
  · exact FitB.none rfl (by show (0 : Int) ≤ (en l (sp l (nl (l.take k))) : Int); omega) (by show (en l (sp l (nl (l.take k))) : Int) ≤ _; omega)
  split
  · exact FitB.sw rfl (Nat.le_refl _) h4 (by simp) (by show (0 : Int) ≤ (en l (sp l (nl (l.take k))) : Int) + 1; omega) (by show (en l (sp l (nl (l.take k))) : Int) + 1 ≤ _; simp; omega)
  split
  · exact FitB.sw rfl (Nat.le_refl _) h2 (by simp) (by show (0 : Int) ≤ (sp l (nl (l.take k)) : Int); omega) (by show (sp l (nl (l.take k)) : Int) ≤ _; simp; omega)
  · exact FitB.no (by decide)
theorem jnD_len (l : List UInt8) (s : Nat) : ∀ (m e : Nat) (J : List UInt8), (jnD l s m e J).length = m ∧ nsum (jnD l s m e J) ≤ m
  | 0, _, _ => ⟨rfl, Nat.le_refl _⟩
  | m + 1, e, J => by
    obtain ⟨h1, h2⟩ := jnD_len l s m (en l (e + 1)) (J ++ glu J (jnR l e) ++ jnR l e)
    have h3 := glu_le J (jnR l e)
    rw [jnD_succ]
    refine ⟨by rw [List.length_cons, h1], ?_⟩
    unfold nsum at h2 ⊢
    rw [List.map_cons, List.sum_cons]
    dsimp only
    omega
theorem jn_app {l : List UInt8} {s : Nat} (hs : s ≤ l.length) (i0 : Nat) : ∀ (m i : Nat) (J : List UInt8), i0 + i + m ≤ nl l → s ≤ en l (sp l (i0 + i)) →
    ∃ J', app (l.take s ++ J ++ l.drop (en l (sp l (i0 + i)))) (jnD l s m (en l (sp l (i0 + i))) J) = some (l.take s ++ J' ++ l.drop (en l (sp l (i0 + i + m)))) ∧ J.length ≤ J'.length ∧ ∀ d ∈ jnD l s m (en l (sp l (i0 + i))) J, 0 ≤ d.a ∧ d.a ≤ ((s + J'.length : Nat) : Int)
  | 0, i, J, _, _ => ⟨J, rfl, Nat.le_refl _, fun d hd => by cases hd⟩
  | m + 1, i, J, hi, hse => by
    obtain ⟨hx1, hx2⟩ := sp_next (l := l) (i := i0 + i) (by omega)
    obtain ⟨e, he⟩ : ∃ e, en l (sp l (i0 + i)) = e := ⟨_, rfl⟩
    rw [he] at hx1 hx2 hse ⊢
    have hen : en l (e + 1) = en l (sp l (i0 + (i + 1))) := by rw [← hx2]; rfl
    have hel := en_le (t := l) (s := e + 1) (by omega)
    have heg := en_ge l (e + 1)
    obtain ⟨J', h1, h2, h3⟩ := jn_app hs i0 m (i + 1) (J ++ glu J (jnR l e) ++ jnR l e) (by omega) (by rw [← hen]; omega)
    have hTl : (jnT l e).length = en l (e + 1) - (e + 1) := sl_len hel
    have hd := lb2_le (jnT l e)
    rw [jnD_succ]
    have hts : (l.take s).length = s := by rw [List.length_take]; omega
    obtain ⟨d, hdd⟩ : ∃ d, lb2 (jnT l e) = d := ⟨_, rfl⟩
    rw [hdd] at hd ⊢
    have hO : (sl l e (e + 1 + d)).length = 1 + d := by rw [sl_len (by omega)]; omega
    obtain ⟨f1, f2⟩ := fit_at (P := l.take s ++ J) (R := l.drop e) (O := sl l e (e + 1 + d)) (N := glu J (jnR l e)) (z := ((s + J.length : Nat) : Int)) (by rw [List.length_append, hts]) (by rw [hO]; unfold sl; rw [show e + 1 + d - e = 1 + d by omega])
    have hR : l.drop (e + 1 + d) = jnR l e ++ l.drop (en l (e + 1)) := by
      unfold jnR
      rw [hdd]
      unfold jnT
      conv => lhs; rw [← List.take_append_drop (en l (e + 1) - (e + 1 + d)) (l.drop (e + 1 + d))]
      rw [List.drop_drop, show e + 1 + d + (en l (e + 1) - (e + 1 + d)) = en l (e + 1) by omega]
      congr 1
      unfold sl
      rw [List.drop_take, List.drop_drop]
      congr 1
      omega
    rw [hO, List.drop_drop, show e + (1 + d) = e + 1 + d by omega, hR] at f2
    refine ⟨J', ?_, ?_, ?_⟩
    · show (if fitB _ _ then app (stp _ _) _ else none) = _
      rw [f1, if_pos rfl, f2, hen, show i0 + i + (m + 1) = i0 + (i + 1) + m by omega, ← h1]
      congr 1
      simp
    · rw [List.length_append, List.length_append] at h2; omega
    · intro x hx
      rcases List.mem_cons.1 hx with hx | hx
      · rw [hx]
        dsimp only
        rw [List.length_append, List.length_append] at h2
        omega
      · rw [hen] at hx; exact h3 x hx
theorem cut_join' {l : List UInt8} {f t : Nat} (hft : f ≤ t) : l.take f ++ sl l f t ++ l.drop t = l := by
  unfold sl
  conv => rhs; rw [← List.take_append_drop f l, ← List.take_append_drop (t - f) (l.drop f)]
  rw [List.drop_drop, show f + (t - f) = t by omega, List.append_assoc]
theorem jo_fit {l : List UInt8} (at' q : Int) : FitB l (joX l at' q) := by
  unfold joX
  split
  · exact FitB.no (by decide)
  rename_i h
  obtain ⟨k, hk⟩ : ∃ k : Nat, at' = (k : Int) := ⟨at'.toNat, by omega⟩
  subst hk
  rw [show ((k : Int)).toNat = k from rfl]
  unfold joM
  split
  · exact FitB.no (by decide)
  rename_i hge
  dsimp only
  obtain ⟨m, hm⟩ : ∃ m : Nat, (max q 2).toNat - 1 = m := ⟨_, rfl⟩
  rw [hm]
  have hmb : m ≤ 9998 := by omega
  obtain ⟨i0, hi0⟩ : ∃ i, nl (l.take k) = i := ⟨_, rfl⟩
  have hi := nl_take_le l k
  rw [hi0] at hge hi ⊢
  have hs := sp_le (t := l) hi
  have heg := en_ge l (sp l i0)
  obtain ⟨J', h1, h2, h3⟩ := jn_app (l := l) (s := sp l i0) hs i0 m 0 (sl l (sp l i0) (en l (sp l i0))) (by omega) heg
  rw [Nat.add_zero] at h1 h3
  rw [cut_join' heg] at h1
  obtain ⟨e1, e2⟩ := jnD_len l (sp l i0) m (en l (sp l i0)) (sl l (sp l i0) (en l (sp l i0)))
  have hla : 0 ≤ lastA (jnD l (sp l i0) m (en l (sp l i0)) (sl l (sp l i0) (en l (sp l i0)))) ∧ lastA (jnD l (sp l i0) m (en l (sp l i0)) (sl l (sp l i0) (en l (sp l i0)))) ≤ ((sp l i0 + J'.length : Nat) : Int) := by
    unfold lastA
    cases hg : (jnD l (sp l i0) m (en l (sp l i0)) (sl l (sp l i0) (en l (sp l i0)))).getLast? with
    | none => exact ⟨Int.le_refl _, by simp only [Option.map_none, Option.getD_none]; omega⟩
    | some d => exact h3 d (List.mem_of_getLast? hg)
  refine ⟨.inr ⟨rfl, _, h1, hla.1, ?_⟩, ?_, ?_⟩
  · dsimp only
    rw [List.length_append, List.length_append, List.length_take, show min (sp l i0) l.length = sp l i0 by omega]
    have := hla.2
    omega
  · dsimp only; omega
  · dsimp only; omega
end Go.Proofs.YtppefcnopkmhbaaGreatDoor

namespace Go.Proofs.YtppefcnopkmhbaaGreatDoor
open Go.RowKit

set_option maxRecDepth 8000
def smX (l : List UInt8) (kind at' q : Int) (b : UInt8) (s : ByteArray) : Ef × Int := if kind = 0 then ovX l at' q b else if kind = 1 then tuX l at' q else if kind = 2 then joX l at' q else enX l at' s
theorem sm_fit {l : List UInt8} (hl : l.length ≤ 65536) (kind at' q : Int) (b : UInt8) (s : ByteArray) : FitB l (smX l kind at' q b s) := by
  unfold smX
  split
  · exact ov_fit at' q b
  split
  · exact tu_fit hl at' q
  split
  · exact jo_fit at' q
  · exact en_fit at' s
def smC (kind at' q : Int) (b : UInt8) (s : ByteArray) : Array Value := #[.int .i64 kind, .int .i64 at', .int .i64 q, .int .u8 (b.toNat : Int), .string s]
structure Smb (w W : World) (kind at' q : Int) (b : UInt8) (s : ByteArray) : Prop where
  bel : Below w.heap.size w W
  rg : Blk W w.heap.size 54 (smC kind at' q b s)
  ef : Blk W (w.heap.size + 1) 35 (ef7 (.slice none 0 0) 0 false false (.slice none 0 0) 0 false)
theorem Smb.new (w : World) (kind at' q : Int) (b : UInt8) (s : ByteArray) : Smb w ((w.alloc (.cells (smC kind at' q b s) 54)).alloc (.cells (ef7 (.slice none 0 0) 0 false false (.slice none 0 0) 0 false) 35)) kind at' q b s :=
  ⟨bAlloc (bAlloc (Below.refl _ _) _) _, (Blk.new w 54 _).keep (bAlloc (Below.refl _ _) _), by have := Blk.new (w.alloc (.cells (smC kind at' q b s) 54)) 35 (ef7 (.slice none 0 0) 0 false false (.slice none 0 0) 0 false); rwa [World.size_alloc] at this⟩
theorem smC_cells {W : World} {B : Nat} {kind at' q : Int} {b : UInt8} {s : ByteArray} (h : Blk W B 54 (smC kind at' q b s)) :
    W.cell? ⟨B, 0, none⟩ = some (.int .i64 kind) ∧ W.cell? ⟨B, 1, none⟩ = some (.int .i64 at') ∧ W.cell? ⟨B, 2, none⟩ = some (.int .i64 q) ∧ W.cell? ⟨B, 3, none⟩ = some (.int .u8 (b.toNat : Int)) ∧ W.cell? ⟨B, 4, none⟩ = some (.string s) := ⟨h.cell rfl, h.cell rfl, h.cell rfl, h.cell rfl, h.cell rfl⟩
set_option maxHeartbeats 8000000 in
set_option linter.unusedSimpArgs false in
theorem small_0 (ao : Option Addr) (n c : Nat) (l : List UInt8) (kind at' q : Int) (b : UInt8) (s : ByteArray) (w : World) (HT : Hid (Tx w ao n c l)) (hbig : n ≤ 1048576) (h0 : kind = 0) :
    Calls Tryz.prog 21 #[.slice ao n c, .agg #[.int .i64 kind, .int .i64 at', .int .i64 q, .int .u8 (b.toNat : Int), .string s]] w fun e w' => EfQ (ovX l at' q b).1 (ovX l at' q b).2 w e w' := by
  obtain ⟨W1, hW1⟩ : ∃ x, (w.alloc (.cells #[.int .i64 kind, .int .i64 at', .int .i64 q, .int .u8 (b.toNat : Int), .string s] 54)).alloc (.cells #[.slice none 0 0, .int .i64 0, .bool false, .bool false, .slice none 0 0, .int .i64 0, .bool false] 35) = x := ⟨_, rfl⟩
  have T1 : Hid (Smb w W1 kind at' q b s) := by unfold Hid; rw [← hW1]; exact Smb.new w _ _ _ _ _
  obtain ⟨B, hB⟩ : ∃ b, w.heap.size = b := ⟨_, rfl⟩
  have HB := Hid.mk' hB
  have K1 : Hid (Blk W1 B 54 (smC kind at' q b s)) := by unfold Hid; rw [← hB]; exact T1.out.rg
  have J1 : Hid (Blk W1 (B + 1) 35 (ef7 (.slice none 0 0) 0 false false (.slice none 0 0) 0 false)) := by unfold Hid; rw [← hB]; exact T1.out.ef
  have L1 := Hid.mk' T1.out.bel
  have CX := Hid.mk' (over_any ao n c l at' q b W1 (HT.out.keep T1.out.bel) hbig)
  obtain ⟨⟨⟨es, cur, sset, lin, txt, how, typ⟩, z⟩, hx⟩ : ∃ x, ovX l at' q b = x := ⟨_, rfl⟩
  rw [hx] at CX ⊢
  dsimp only at CX ⊢
  clear hx
  have k0 : (kind == 0) = true := by simpa using h0
  clear h0
  obtain ⟨c0, c1, c2, c3, c4⟩ := smC_cells K1.out
  clear T1 HT
  go_enter Tryz.func21, Tryz.ntmps21
  go_upto_region 1 with fail
  clear hW1 hB
  go_wp2_with (first | (go_at_call 54; refine CX.out.mono ?_; rintro e w5 ⟨v, F, tv, rfl, hF, hM, hb5⟩; obtain ⟨eo, ec, rfl, -, -⟩ := hM.eds.edz; obtain ⟨to', tc, rfl⟩ := hM.tx.shape; have HF := Hid.mk' hF; have HM := Hid.mk' hM; have B5 := Hid.mk' hb5; have J5 := Hid.mk' (J1.out.keep hb5); clear hF hM hb5 CX c0 c1 c2 c3 c4; unfold efV; dsimp only at HM HF ⊢; obtain ⟨fn, hfn⟩ : ∃ fn, F.length = fn := ⟨_, rfl⟩; obtain ⟨tn, htn⟩ : ∃ tn, txt.length = tn := ⟨_, rfl⟩; have HFN := Hid.mk' hfn; have HTN := Hid.mk' htn; rw [hfn, htn] at HM ⊢; clear hfn htn; obtain ⟨j0, j1, j2, j3, j4, j5, j6⟩ := ef_cells J5.out; obtain ⟨f0, f1, f2, f3, f4, f5, f6⟩ := ef_frozen J5.out) | fail)
  have hbk := ef_store J5.out (.slice eo fn ec) (.int .i64 cur) (.bool sset) (.bool lin) (.slice to' tn tc) (.int .i64 how) (.bool typ)
  have hgr := ef_grown w5 (B + 1) (.slice eo fn ec) (.int .i64 cur) (.bool sset) (.bool lin) (.slice to' tn tc) (.int .i64 how) (.bool typ)
  generalize (((((((w5.setCell ⟨B + 1, 0, none⟩ (.slice eo fn ec)).setCell ⟨B + 1, 1, none⟩ (.int .i64 cur)).setCell ⟨B + 1, 2, none⟩ (.bool sset)).setCell ⟨B + 1, 3, none⟩ (.bool lin)).setCell ⟨B + 1, 4, none⟩ (.slice to' tn tc)).setCell ⟨B + 1, 5, none⟩ (.int .i64 how)).setCell ⟨B + 1, 6, none⟩ (.bool typ)) = w9 at *
  obtain ⟨g0, g1, g2, g3, g4, g5, g6⟩ := ef_cells hbk
  refine bodyPost_ret (v := .tuple #[.agg #[.slice eo fn ec, .int .i64 cur, .bool sset, .bool lin, .slice to' tn tc, .int .i64 how, .bool typ], .int .i64 z]) (by simp [results, Tryz.results21, go_sem, g0, g1, g2, g3, g4, g5, g6]) rfl ?_
  obtain rfl := HFN.out
  obtain rfl := HTN.out
  exact EfQ.out (x := ⟨es, cur, sset, lin, txt, how, typ⟩) HF.out HM.out L1.out B5.out hgr J1.out.lt (by have := HB.out; omega)
set_option maxHeartbeats 8000000 in
set_option linter.unusedSimpArgs false in
theorem small_1 (ao : Option Addr) (n c : Nat) (l : List UInt8) (kind at' q : Int) (b : UInt8) (s : ByteArray) (w : World) (HT : Hid (Tx w ao n c l)) (hbig : n ≤ 1048576) (h0 : ¬ kind = 0) (h1 : kind = 1) :
    Calls Tryz.prog 21 #[.slice ao n c, .agg #[.int .i64 kind, .int .i64 at', .int .i64 q, .int .u8 (b.toNat : Int), .string s]] w fun e w' => EfQ (tuX l at' q).1 (tuX l at' q).2 w e w' := by
  obtain ⟨W1, hW1⟩ : ∃ x, (w.alloc (.cells #[.int .i64 kind, .int .i64 at', .int .i64 q, .int .u8 (b.toNat : Int), .string s] 54)).alloc (.cells #[.slice none 0 0, .int .i64 0, .bool false, .bool false, .slice none 0 0, .int .i64 0, .bool false] 35) = x := ⟨_, rfl⟩
  have T1 : Hid (Smb w W1 kind at' q b s) := by unfold Hid; rw [← hW1]; exact Smb.new w _ _ _ _ _
  obtain ⟨B, hB⟩ : ∃ b, w.heap.size = b := ⟨_, rfl⟩
  have HB := Hid.mk' hB
  have K1 : Hid (Blk W1 B 54 (smC kind at' q b s)) := by unfold Hid; rw [← hB]; exact T1.out.rg
  have J1 : Hid (Blk W1 (B + 1) 35 (ef7 (.slice none 0 0) 0 false false (.slice none 0 0) 0 false)) := by unfold Hid; rw [← hB]; exact T1.out.ef
  have L1 := Hid.mk' T1.out.bel
  have CX := Hid.mk' (turn_any ao n c l at' q W1 (HT.out.keep T1.out.bel) hbig)
  obtain ⟨⟨⟨es, cur, sset, lin, txt, how, typ⟩, z⟩, hx⟩ : ∃ x, tuX l at' q = x := ⟨_, rfl⟩
  rw [hx] at CX ⊢
  dsimp only at CX ⊢
  clear hx
  have k0 : (kind == 0) = false := beq_eq_false_iff_ne.2 h0
  have k1 : (kind == 1) = true := by simpa using h1
  clear h0 h1
  obtain ⟨c0, c1, c2, c3, c4⟩ := smC_cells K1.out
  clear T1 HT
  go_enter Tryz.func21, Tryz.ntmps21
  go_upto_region 1 with fail
  clear hW1 hB
  go_wp2_with (first | (go_at_call 55; refine CX.out.mono ?_; rintro e w5 ⟨v, F, tv, rfl, hF, hM, hb5⟩; obtain ⟨eo, ec, rfl, -, -⟩ := hM.eds.edz; obtain ⟨to', tc, rfl⟩ := hM.tx.shape; have HF := Hid.mk' hF; have HM := Hid.mk' hM; have B5 := Hid.mk' hb5; have J5 := Hid.mk' (J1.out.keep hb5); clear hF hM hb5 CX c0 c1 c2 c3 c4; unfold efV; dsimp only at HM HF ⊢; obtain ⟨fn, hfn⟩ : ∃ fn, F.length = fn := ⟨_, rfl⟩; obtain ⟨tn, htn⟩ : ∃ tn, txt.length = tn := ⟨_, rfl⟩; have HFN := Hid.mk' hfn; have HTN := Hid.mk' htn; rw [hfn, htn] at HM ⊢; clear hfn htn; obtain ⟨j0, j1, j2, j3, j4, j5, j6⟩ := ef_cells J5.out; obtain ⟨f0, f1, f2, f3, f4, f5, f6⟩ := ef_frozen J5.out) | fail)
  have hbk := ef_store J5.out (.slice eo fn ec) (.int .i64 cur) (.bool sset) (.bool lin) (.slice to' tn tc) (.int .i64 how) (.bool typ)
  have hgr := ef_grown w5 (B + 1) (.slice eo fn ec) (.int .i64 cur) (.bool sset) (.bool lin) (.slice to' tn tc) (.int .i64 how) (.bool typ)
  generalize (((((((w5.setCell ⟨B + 1, 0, none⟩ (.slice eo fn ec)).setCell ⟨B + 1, 1, none⟩ (.int .i64 cur)).setCell ⟨B + 1, 2, none⟩ (.bool sset)).setCell ⟨B + 1, 3, none⟩ (.bool lin)).setCell ⟨B + 1, 4, none⟩ (.slice to' tn tc)).setCell ⟨B + 1, 5, none⟩ (.int .i64 how)).setCell ⟨B + 1, 6, none⟩ (.bool typ)) = w9 at *
  obtain ⟨g0, g1, g2, g3, g4, g5, g6⟩ := ef_cells hbk
  refine bodyPost_ret (v := .tuple #[.agg #[.slice eo fn ec, .int .i64 cur, .bool sset, .bool lin, .slice to' tn tc, .int .i64 how, .bool typ], .int .i64 z]) (by simp [results, Tryz.results21, go_sem, g0, g1, g2, g3, g4, g5, g6]) rfl ?_
  obtain rfl := HFN.out
  obtain rfl := HTN.out
  exact EfQ.out (x := ⟨es, cur, sset, lin, txt, how, typ⟩) HF.out HM.out L1.out B5.out hgr J1.out.lt (by have := HB.out; omega)
set_option maxHeartbeats 8000000 in
set_option linter.unusedSimpArgs false in
theorem small_2 (ao : Option Addr) (n c : Nat) (l : List UInt8) (kind at' q : Int) (b : UInt8) (s : ByteArray) (w : World) (HT : Hid (Tx w ao n c l)) (hbig : n ≤ 1048576) (h0 : ¬ kind = 0) (h1 : ¬ kind = 1) (h2 : kind = 2) :
    Calls Tryz.prog 21 #[.slice ao n c, .agg #[.int .i64 kind, .int .i64 at', .int .i64 q, .int .u8 (b.toNat : Int), .string s]] w fun e w' => EfQ (joX l at' q).1 (joX l at' q).2 w e w' := by
  obtain ⟨W1, hW1⟩ : ∃ x, (w.alloc (.cells #[.int .i64 kind, .int .i64 at', .int .i64 q, .int .u8 (b.toNat : Int), .string s] 54)).alloc (.cells #[.slice none 0 0, .int .i64 0, .bool false, .bool false, .slice none 0 0, .int .i64 0, .bool false] 35) = x := ⟨_, rfl⟩
  have T1 : Hid (Smb w W1 kind at' q b s) := by unfold Hid; rw [← hW1]; exact Smb.new w _ _ _ _ _
  obtain ⟨B, hB⟩ : ∃ b, w.heap.size = b := ⟨_, rfl⟩
  have HB := Hid.mk' hB
  have K1 : Hid (Blk W1 B 54 (smC kind at' q b s)) := by unfold Hid; rw [← hB]; exact T1.out.rg
  have J1 : Hid (Blk W1 (B + 1) 35 (ef7 (.slice none 0 0) 0 false false (.slice none 0 0) 0 false)) := by unfold Hid; rw [← hB]; exact T1.out.ef
  have L1 := Hid.mk' T1.out.bel
  have CX := Hid.mk' (join_any ao n c l at' q W1 (HT.out.keep T1.out.bel) hbig)
  obtain ⟨⟨⟨es, cur, sset, lin, txt, how, typ⟩, z⟩, hx⟩ : ∃ x, joX l at' q = x := ⟨_, rfl⟩
  rw [hx] at CX ⊢
  dsimp only at CX ⊢
  clear hx
  have k0 : (kind == 0) = false := beq_eq_false_iff_ne.2 h0
  have k1 : (kind == 1) = false := beq_eq_false_iff_ne.2 h1
  have k2 : (kind == 2) = true := by simpa using h2
  clear h0 h1 h2
  obtain ⟨c0, c1, c2, c3, c4⟩ := smC_cells K1.out
  clear T1 HT
  go_enter Tryz.func21, Tryz.ntmps21
  go_upto_region 1 with fail
  clear hW1 hB
  go_wp2_with (first | (go_at_call 56; refine CX.out.mono ?_; rintro e w5 ⟨v, F, tv, rfl, hF, hM, hb5⟩; obtain ⟨eo, ec, rfl, -, -⟩ := hM.eds.edz; obtain ⟨to', tc, rfl⟩ := hM.tx.shape; have HF := Hid.mk' hF; have HM := Hid.mk' hM; have B5 := Hid.mk' hb5; have J5 := Hid.mk' (J1.out.keep hb5); clear hF hM hb5 CX c0 c1 c2 c3 c4; unfold efV; dsimp only at HM HF ⊢; obtain ⟨fn, hfn⟩ : ∃ fn, F.length = fn := ⟨_, rfl⟩; obtain ⟨tn, htn⟩ : ∃ tn, txt.length = tn := ⟨_, rfl⟩; have HFN := Hid.mk' hfn; have HTN := Hid.mk' htn; rw [hfn, htn] at HM ⊢; clear hfn htn; obtain ⟨j0, j1, j2, j3, j4, j5, j6⟩ := ef_cells J5.out; obtain ⟨f0, f1, f2, f3, f4, f5, f6⟩ := ef_frozen J5.out) | fail)
  have hbk := ef_store J5.out (.slice eo fn ec) (.int .i64 cur) (.bool sset) (.bool lin) (.slice to' tn tc) (.int .i64 how) (.bool typ)
  have hgr := ef_grown w5 (B + 1) (.slice eo fn ec) (.int .i64 cur) (.bool sset) (.bool lin) (.slice to' tn tc) (.int .i64 how) (.bool typ)
  generalize (((((((w5.setCell ⟨B + 1, 0, none⟩ (.slice eo fn ec)).setCell ⟨B + 1, 1, none⟩ (.int .i64 cur)).setCell ⟨B + 1, 2, none⟩ (.bool sset)).setCell ⟨B + 1, 3, none⟩ (.bool lin)).setCell ⟨B + 1, 4, none⟩ (.slice to' tn tc)).setCell ⟨B + 1, 5, none⟩ (.int .i64 how)).setCell ⟨B + 1, 6, none⟩ (.bool typ)) = w9 at *
  obtain ⟨g0, g1, g2, g3, g4, g5, g6⟩ := ef_cells hbk
  refine bodyPost_ret (v := .tuple #[.agg #[.slice eo fn ec, .int .i64 cur, .bool sset, .bool lin, .slice to' tn tc, .int .i64 how, .bool typ], .int .i64 z]) (by simp [results, Tryz.results21, go_sem, g0, g1, g2, g3, g4, g5, g6]) rfl ?_
  obtain rfl := HFN.out
  obtain rfl := HTN.out
  exact EfQ.out (x := ⟨es, cur, sset, lin, txt, how, typ⟩) HF.out HM.out L1.out B5.out hgr J1.out.lt (by have := HB.out; omega)
set_option maxHeartbeats 8000000 in
set_option linter.unusedSimpArgs false in
theorem small_3 (ao : Option Addr) (n c : Nat) (l : List UInt8) (kind at' q : Int) (b : UInt8) (s : ByteArray) (w : World) (HT : Hid (Tx w ao n c l)) (hbig : n ≤ 1048576) (h0 : ¬ kind = 0) (h1 : ¬ kind = 1) (h2 : ¬ kind = 2) :
    Calls Tryz.prog 21 #[.slice ao n c, .agg #[.int .i64 kind, .int .i64 at', .int .i64 q, .int .u8 (b.toNat : Int), .string s]] w fun e w' => EfQ (enX l at' s).1 (enX l at' s).2 w e w' := by
  obtain ⟨W1, hW1⟩ : ∃ x, (w.alloc (.cells #[.int .i64 kind, .int .i64 at', .int .i64 q, .int .u8 (b.toNat : Int), .string s] 54)).alloc (.cells #[.slice none 0 0, .int .i64 0, .bool false, .bool false, .slice none 0 0, .int .i64 0, .bool false] 35) = x := ⟨_, rfl⟩
  have T1 : Hid (Smb w W1 kind at' q b s) := by unfold Hid; rw [← hW1]; exact Smb.new w _ _ _ _ _
  obtain ⟨B, hB⟩ : ∃ b, w.heap.size = b := ⟨_, rfl⟩
  have HB := Hid.mk' hB
  have K1 : Hid (Blk W1 B 54 (smC kind at' q b s)) := by unfold Hid; rw [← hB]; exact T1.out.rg
  have J1 : Hid (Blk W1 (B + 1) 35 (ef7 (.slice none 0 0) 0 false false (.slice none 0 0) 0 false)) := by unfold Hid; rw [← hB]; exact T1.out.ef
  have L1 := Hid.mk' T1.out.bel
  have CX := Hid.mk' (enter_any ao n c l at' s W1 (HT.out.keep T1.out.bel) hbig)
  obtain ⟨⟨⟨es, cur, sset, lin, txt, how, typ⟩, z⟩, hx⟩ : ∃ x, enX l at' s = x := ⟨_, rfl⟩
  rw [hx] at CX ⊢
  dsimp only at CX ⊢
  clear hx
  have k0 : (kind == 0) = false := beq_eq_false_iff_ne.2 h0
  have k1 : (kind == 1) = false := beq_eq_false_iff_ne.2 h1
  have k2 : (kind == 2) = false := beq_eq_false_iff_ne.2 h2
  clear h0 h1 h2
  obtain ⟨c0, c1, c2, c3, c4⟩ := smC_cells K1.out
  clear T1 HT
  go_enter Tryz.func21, Tryz.ntmps21
  go_upto_region 1 with fail
  clear hW1 hB
  go_wp2_with (first | (go_at_call 57; refine CX.out.mono ?_; rintro e w5 ⟨v, F, tv, rfl, hF, hM, hb5⟩; obtain ⟨eo, ec, rfl, -, -⟩ := hM.eds.edz; obtain ⟨to', tc, rfl⟩ := hM.tx.shape; have HF := Hid.mk' hF; have HM := Hid.mk' hM; have B5 := Hid.mk' hb5; have J5 := Hid.mk' (J1.out.keep hb5); clear hF hM hb5 CX c0 c1 c2 c3 c4; unfold efV; dsimp only at HM HF ⊢; obtain ⟨fn, hfn⟩ : ∃ fn, F.length = fn := ⟨_, rfl⟩; obtain ⟨tn, htn⟩ : ∃ tn, txt.length = tn := ⟨_, rfl⟩; have HFN := Hid.mk' hfn; have HTN := Hid.mk' htn; rw [hfn, htn] at HM ⊢; clear hfn htn; obtain ⟨j0, j1, j2, j3, j4, j5, j6⟩ := ef_cells J5.out; obtain ⟨f0, f1, f2, f3, f4, f5, f6⟩ := ef_frozen J5.out) | fail)
  have hbk := ef_store J5.out (.slice eo fn ec) (.int .i64 cur) (.bool sset) (.bool lin) (.slice to' tn tc) (.int .i64 how) (.bool typ)
  have hgr := ef_grown w5 (B + 1) (.slice eo fn ec) (.int .i64 cur) (.bool sset) (.bool lin) (.slice to' tn tc) (.int .i64 how) (.bool typ)
  generalize (((((((w5.setCell ⟨B + 1, 0, none⟩ (.slice eo fn ec)).setCell ⟨B + 1, 1, none⟩ (.int .i64 cur)).setCell ⟨B + 1, 2, none⟩ (.bool sset)).setCell ⟨B + 1, 3, none⟩ (.bool lin)).setCell ⟨B + 1, 4, none⟩ (.slice to' tn tc)).setCell ⟨B + 1, 5, none⟩ (.int .i64 how)).setCell ⟨B + 1, 6, none⟩ (.bool typ)) = w9 at *
  obtain ⟨g0, g1, g2, g3, g4, g5, g6⟩ := ef_cells hbk
  refine bodyPost_ret (v := .tuple #[.agg #[.slice eo fn ec, .int .i64 cur, .bool sset, .bool lin, .slice to' tn tc, .int .i64 how, .bool typ], .int .i64 z]) (by simp [results, Tryz.results21, go_sem, g0, g1, g2, g3, g4, g5, g6]) rfl ?_
  obtain rfl := HFN.out
  obtain rfl := HTN.out
  exact EfQ.out (x := ⟨es, cur, sset, lin, txt, how, typ⟩) HF.out HM.out L1.out B5.out hgr J1.out.lt (by have := HB.out; omega)
theorem small_any (ao : Option Addr) (n c : Nat) (l : List UInt8) (kind at' q : Int) (b : UInt8) (s : ByteArray) (w : World) (HT : Hid (Tx w ao n c l)) (hbig : n ≤ 1048576) :
    Calls Tryz.prog 21 #[.slice ao n c, .agg #[.int .i64 kind, .int .i64 at', .int .i64 q, .int .u8 (b.toNat : Int), .string s]] w fun e w' => EfQ (smX l kind at' q b s).1 (smX l kind at' q b s).2 w e w' := by
  unfold smX
  by_cases h0 : kind = 0
  · rw [if_pos h0]; exact small_0 ao n c l kind at' q b s w HT hbig h0
  rw [if_neg h0]
  by_cases h1 : kind = 1
  · rw [if_pos h1]; exact small_1 ao n c l kind at' q b s w HT hbig h0 h1
  rw [if_neg h1]
  by_cases h2 : kind = 2
  · rw [if_pos h2]; exact small_2 ao n c l kind at' q b s w HT hbig h0 h1 h2
  rw [if_neg h2]
  exact small_3 ao n c l kind at' q b s w HT hbig h0 h1 h2
end Go.Proofs.YtppefcnopkmhbaaGreatDoor

namespace Go.Proofs.YtppefcnopkmhbaaGreatDoor
open Go.RowKit

set_option maxRecDepth 8000
theorem shX_txt (l : List UInt8) (o : Option (List Ed)) (a : Nat) : (shX l o a).1.txt = [] := by
  cases o <;> rfl
theorem do_txt (l : List UInt8) (at' : Int) (s : ByteArray) (F T : Int) (L D : Bool) (q : Int) : (doX l at' s F T L D q).1.txt.length ≤ l.length + 1 := by
  have hk : ∀ f t L D, (tk l f t L D).length ≤ l.length + 1 := fun f t L D => tk_len _ _ _ _ _
  unfold doX
  split
  · exact Nat.zero_le _
  split
  · exact Nat.zero_le _
  unfold opX
  split
  · exact hk _ _ _ _
  split
  · unfold cEf
    split
    · exact hk _ _ _ _
    split
    · exact Nat.zero_le _
    · exact hk F.toNat T.toNat false D
  split
  · exact hk _ _ _ _
  split
  · rw [shX_txt]; exact Nat.zero_le _
  split
  · rw [shX_txt]; exact Nat.zero_le _
  split
  · exact Nat.zero_le _
  split <;> exact Nat.zero_le _
theorem put_txt (l : List UInt8) (at' q : Int) (set lin : Bool) (X : List UInt8) (ah : Bool) : (ptX l at' q set lin X ah).1.txt = [] := by
  unfold ptX
  split
  · rfl
  split
  · rfl
  unfold ptM
  split
  · rfl
  split
  · rfl
  · unfold pbX
    split <;> rfl
theorem sm_txt (l : List UInt8) (kind at' q : Int) (b : UInt8) (s : ByteArray) : (smX l kind at' q b s).1.txt = [] := by
  unfold smX
  split
  · unfold ovX ovM
    split
    · rfl
    split
    · rfl
    split <;> rfl
  split
  · unfold tuX tuM
    split
    · rfl
    split <;> rfl
  split
  · unfold joX joM
    split
    · rfl
    split <;> rfl
  · unfold enX enM
    dsimp only
    repeat' (split; · rfl)
    rfl
end Go.Proofs.YtppefcnopkmhbaaGreatDoor
