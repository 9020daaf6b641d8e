/- Opr, Dox, Rhd, Sw2 -/
import Derived.Test.YtppefcnopkmhbaaGreatDoorPt19
import Derived.MapKept
import Derived.Test.YtppefcnopkmhbaaGreatDoorPt14
import Derived.Test.YtppefcnopkmhbaaGreatDoorPt10
import Derived.Deep.CutBlock
import Derived.Test.YtppefcnopkmhbaaGreatDoorPt18
namespace Go.Proofs.YtppefcnopkmhbaaGreatDoor
open Go.RowKit

set_option maxRecDepth 8000
theorem und_map : ∃ k e, Tryz.prog.underlying 84 = some (.map k e) ∧ Tryz.prog.underlying k = some .string := ⟨9, 82, by kernel_rfl, by kernel_rfl⟩
def Mpb (W : World) (r : Nat) (es : Array MapEntry) (c : Nat) : Prop := W.heap[r]? = some (.map es c)
theorem Mpb.lt {W : World} {r c : Nat} {es : Array MapEntry} (h : Mpb W r es c) : r < W.heap.size := (Array.getElem?_eq_some_iff.1 h).1
theorem Mpb.keep {W W' : World} {r c : Nat} {es : Array MapEntry} (h : Mpb W r es c) (hb : Below W.heap.size W W') : Mpb W' r es c := by unfold Mpb; rw [hb.block r h.lt]; exact h
theorem Blk.grown_map {W W' : World} {B e r : Nat} {cs : Array Value} (h : Blk W B e cs) (hg : W.grownBy W' (some r)) (hne : B ≠ r) : Blk W' B e cs := h.grown hg (by intro h; injection h with h; exact hne h)
theorem ins_any {W : World} {r c : Nat} {es : Array MapEntry} (hb : Mpb W r es c) (k : ByteArray) (v : Value) (hn : Instr.findNow .string (.string k) es.toList 0 = some none) :
    ∃ W', (Instr.mapUpdate 84 (.map (some r)) (.string k) v).run Tryz.prog W = .ok () W' ∧ Mpb W' r (es.push ⟨.string k, v, c⟩) (c + 1) ∧ W.grownBy W' (some r) ∧ W'.heap.size = W.heap.size := by
  obtain ⟨kt, et, hm, hk⟩ := und_map
  have hc : (Instr.checkKey false 10000 kt (.string k)).run Tryz.prog W = .ok () W := MapKept.run_checkKey (k := .string k) hk (by simp [MapKept.IsKey]) false 9999
  refine ⟨{ W with heap := W.heap.setIfInBounds r (.map (es.push ⟨.string k, v, c⟩) (c + 1)) }, ?_, ?_, ⟨rfl, rfl, rfl, by simp, fun k' hk' hne => ?_⟩, by simp⟩
  · simp [Instr.mapUpdate, run_underlying hm, MapKept.run_getObj_map hb, hc, MapKept.run_findKey hk hn, MapKept.run_setObj_map _ hb, Result.andThen]
  · exact (MapKept.heap_set hb).1
  · exact (MapKept.heap_set hb).2 k' (fun e => hne (by rw [e]))
theorem look_any {W : World} {r c : Nat} {es : Array MapEntry} (hb : Mpb W r es c) (s : ByteArray) {i : Nat} {v : Value} (hn : Instr.findNow .string (.string s) es.toList 0 = some (some (i, v))) :
    (Instr.lookup 84 (.map (some r)) (.string s) true).run Tryz.prog W = .ok (.tuple #[v, .bool true]) W := by
  obtain ⟨kt, et, hm, hk⟩ := und_map
  have hc : ∀ b, (Instr.checkKey b 10000 kt (.string s)).run Tryz.prog W = .ok () W := fun b => MapKept.run_checkKey (k := .string s) hk (by simp [MapKept.IsKey]) b 9999
  simp [Instr.lookup, run_underlying hm, MapKept.run_getObj_map hb, hc, MapKept.run_findKey hk hn, Result.andThen]
theorem look_none {W : World} {r c : Nat} {es : Array MapEntry} (hb : Mpb W r es c) (s : ByteArray) (hn : Instr.findNow .string (.string s) es.toList 0 = some none) :
    (Instr.lookup 84 (.map (some r)) (.string s) true).run Tryz.prog W = .ok (.tuple #[.nilFunc, .bool false]) W := by
  have hm : Tryz.prog.underlying 84 = some (.map 9 82) := by kernel_rfl
  have hk : Tryz.prog.underlying 9 = some .string := by kernel_rfl
  have hz : ∀ W, (zeroValue 82).run Tryz.prog W = .ok .nilFunc W := fun W => by kernel_rfl
  have hc : ∀ b, (Instr.checkKey b 10000 9 (.string s)).run Tryz.prog W = .ok () W := fun b => MapKept.run_checkKey (k := .string s) hk (by simp [MapKept.IsKey]) b 9999
  simp [Instr.lookup, run_underlying hm, MapKept.run_getObj_map hb, hc, MapKept.run_findKey hk hn, Result.andThen, hz]
/-- the operators -/
def opes (C1 C2 C3 : Nat) : Array MapEntry := #[⟨.string ⟨#[100]⟩, .func (.func 68) #[] #[], 0⟩, ⟨.string ⟨#[99]⟩, .func (.func 69) #[] #[], 1⟩, ⟨.string ⟨#[121]⟩, .func (.func 70) #[] #[], 2⟩, ⟨.string ⟨#[62]⟩, .func (.func 71) #[] #[], 3⟩, ⟨.string ⟨#[60]⟩, .func (.func 72) #[] #[], 4⟩, ⟨.string ⟨#[103, 126]⟩, .func (.func 106) #[] #[.pointer (some ⟨C1, 0, none⟩)], 5⟩, ⟨.string ⟨#[103, 117]⟩, .func (.func 106) #[] #[.pointer (some ⟨C2, 0, none⟩)], 6⟩, ⟨.string ⟨#[103, 85]⟩, .func (.func 106) #[] #[.pointer (some ⟨C3, 0, none⟩)], 7⟩]
def tfv (f : Nat) : Array Value := #[.func (.func f) #[] #[]]
def OprP (w : World) (e : Ending) (w' : World) : Prop := ∃ r C1 C2 C3, e = .returned (.map (some r)) ∧ Mpb w' r (opes C1 C2 C3) 8 ∧ Blk w' C1 110 (tfv 74) ∧ Blk w' C2 110 (tfv 75) ∧ Blk w' C3 110 (tfv 76) ∧ Below w.heap.size w w'
set_option maxHeartbeats 4000000 in
theorem opr_any (w : World) : Calls Tryz.prog 35 #[] w fun e w' => OprP w e w' := by
  obtain ⟨r, hr⟩ : ∃ r, w.heap.size = r := ⟨_, rfl⟩
  have hM : (Instr.makeMap 84 none).run Tryz.prog w = .ok (.map (some r)) (w.alloc (.map #[] 0)) := by rw [← hr]; rfl
  have m0 : Mpb (w.alloc (.map #[] 0)) r #[] 0 := by rw [← hr]; exact heap_alloc_new w _
  have b0 : Below w.heap.size w (w.alloc (.map #[] 0)) := bAlloc (Below.refl _ _) _
  generalize w.alloc (.map #[] 0) = W0 at *
  obtain ⟨W1, hI0, m1, g1, z1⟩ := ins_any m0 ⟨#[100]⟩ (.func (.func 68) #[] #[]) (by kernel_rfl)
  have b1 : Below w.heap.size w W1 := b0.grown g1 b0.size (fun g hg => by injection hg with hg; omega)
  obtain ⟨W2, hI1, m2, g2, z2⟩ := ins_any m1 ⟨#[99]⟩ (.func (.func 69) #[] #[]) (by kernel_rfl)
  have b2 : Below w.heap.size w W2 := b1.grown g2 b1.size (fun g hg => by injection hg with hg; omega)
  obtain ⟨W3, hI2, m3, g3, z3⟩ := ins_any m2 ⟨#[121]⟩ (.func (.func 70) #[] #[]) (by kernel_rfl)
  have b3 : Below w.heap.size w W3 := b2.grown g3 b2.size (fun g hg => by injection hg with hg; omega)
  obtain ⟨W4, hI3, m4, g4, z4⟩ := ins_any m3 ⟨#[62]⟩ (.func (.func 71) #[] #[]) (by kernel_rfl)
  have b4 : Below w.heap.size w W4 := b3.grown g4 b3.size (fun g hg => by injection hg with hg; omega)
  obtain ⟨W5, hI4, m5, g5, z5⟩ := ins_any m4 ⟨#[60]⟩ (.func (.func 72) #[] #[]) (by kernel_rfl)
  have b5 : Below w.heap.size w W5 := b4.grown g5 b4.size (fun g hg => by injection hg with hg; omega)
  have m5lt := m5.lt
  have sz0 : W5.heap.size ≤ W5.heap.size := Nat.le_refl _
  go_enter Tryz.func35, Tryz.ntmps35
  go_wp2_with (first | (go_at_call 73; (refine (letters_tog W5).mono ?_; rintro e V1 ⟨C1, rfl, hC0, hl0, hb0⟩; have m5k := m5.keep hb0; clear m5; have m5 := m5k; clear m5k; obtain ⟨U1, hI5, m6, g6, z6⟩ := ins_any m5 ⟨#[103, 126]⟩ (.func (.func 106) #[] #[.pointer (some ⟨C1, 0, none⟩)]) (by kernel_rfl); have l0 : r < C1 := (by first | exact Nat.lt_of_lt_of_le m5lt hl0 | exact Nat.lt_of_lt_of_le (Nat.lt_of_lt_of_le m5lt sz0) hl0); have k0 := hC0.grown_map g6 (Nat.ne_of_gt l0); have b6 : Below w.heap.size w U1 := (bT b5 hb0).grown g6 (bT b5 hb0).size (fun g hg => by injection hg with hg; omega); have sz1 : W5.heap.size ≤ U1.heap.size := (by have := hb0.size; omega); clear hC0 hb0)) | (go_at_call 73; (refine (letters_low U1).mono ?_; rintro e V2 ⟨C2, rfl, hC1, hl1, hb1⟩; have m6k := m6.keep hb1; clear m6; have m6 := m6k; clear m6k; obtain ⟨U2, hI6, m7, g7, z7⟩ := ins_any m6 ⟨#[103, 117]⟩ (.func (.func 106) #[] #[.pointer (some ⟨C2, 0, none⟩)]) (by kernel_rfl); have l1 : r < C2 := (by first | exact Nat.lt_of_lt_of_le m5lt hl1 | exact Nat.lt_of_lt_of_le (Nat.lt_of_lt_of_le m5lt sz1) hl1); have k1 := hC1.grown_map g7 (Nat.ne_of_gt l1); have q0 := (k0.keep hb1).grown_map g7 (Nat.ne_of_gt (l0)); clear k0; have k0 := q0; clear q0; have b7 : Below w.heap.size w U2 := (bT b6 hb1).grown g7 (bT b6 hb1).size (fun g hg => by injection hg with hg; omega); have sz2 : W5.heap.size ≤ U2.heap.size := (by have := hb1.size; omega); clear hC1 hb1)) | (go_at_call 73; (refine (letters_upp U2).mono ?_; rintro e V3 ⟨C3, rfl, hC2, hl2, hb2⟩; have m7k := m7.keep hb2; clear m7; have m7 := m7k; clear m7k; obtain ⟨U3, hI7, m8, g8, z8⟩ := ins_any m7 ⟨#[103, 85]⟩ (.func (.func 106) #[] #[.pointer (some ⟨C3, 0, none⟩)]) (by kernel_rfl); have l2 : r < C3 := (by first | exact Nat.lt_of_lt_of_le m5lt hl2 | exact Nat.lt_of_lt_of_le (Nat.lt_of_lt_of_le m5lt sz2) hl2); have k2 := hC2.grown_map g8 (Nat.ne_of_gt l2); have q0 := (k0.keep hb2).grown_map g8 (Nat.ne_of_gt (l0)); clear k0; have k0 := q0; clear q0; have q1 := (k1.keep hb2).grown_map g8 (Nat.ne_of_gt (l1)); clear k1; have k1 := q1; clear q1; have b8 : Below w.heap.size w U3 := (bT b7 hb2).grown g8 (bT b7 hb2).size (fun g hg => by injection hg with hg; omega); have sz3 : W5.heap.size ≤ U3.heap.size := (by have := hb2.size; omega); clear hC2 hb2)) | fail)
  go_ret
  exact ⟨r, C1, C2, C3, rfl, m8, k0, k1, k2, b8⟩
end Go.Proofs.YtppefcnopkmhbaaGreatDoor

namespace Go.Proofs.YtppefcnopkmhbaaGreatDoor
open Go.RowKit

set_option maxRecDepth 8000
/-- which operator -/
def kn (s : ByteArray) : Nat :=
  if s = ⟨#[100]⟩ then 1 else if s = ⟨#[99]⟩ then 2 else if s = ⟨#[121]⟩ then 3 else if s = ⟨#[62]⟩ then 4 else if s = ⟨#[60]⟩ then 5 else if s = ⟨#[103, 126]⟩ then 6 else if s = ⟨#[103, 117]⟩ then 7 else if s = ⟨#[103, 85]⟩ then 8 else 0
theorem kn_cases (s : ByteArray) : (s = ⟨#[100]⟩ ∧ kn s = 1) ∨ (s = ⟨#[99]⟩ ∧ kn s = 2) ∨ (s = ⟨#[121]⟩ ∧ kn s = 3) ∨ (s = ⟨#[62]⟩ ∧ kn s = 4) ∨ (s = ⟨#[60]⟩ ∧ kn s = 5) ∨ (s = ⟨#[103, 126]⟩ ∧ kn s = 6) ∨ (s = ⟨#[103, 117]⟩ ∧ kn s = 7) ∨ (s = ⟨#[103, 85]⟩ ∧ kn s = 8) ∨
    ((s ≠ ⟨#[100]⟩ ∧ s ≠ ⟨#[99]⟩ ∧ s ≠ ⟨#[121]⟩ ∧ s ≠ ⟨#[62]⟩ ∧ s ≠ ⟨#[60]⟩ ∧ s ≠ ⟨#[103, 126]⟩ ∧ s ≠ ⟨#[103, 117]⟩ ∧ s ≠ ⟨#[103, 85]⟩) ∧ kn s = 0) := by
  unfold kn
  by_cases h1 : s = ⟨#[100]⟩
  · subst h1; exact .inl ⟨rfl, by decide⟩
  by_cases h2 : s = ⟨#[99]⟩
  · subst h2; exact .inr (.inl ⟨rfl, by decide⟩)
  by_cases h3 : s = ⟨#[121]⟩
  · subst h3; exact .inr (.inr (.inl ⟨rfl, by decide⟩))
  by_cases h4 : s = ⟨#[62]⟩
  · subst h4; exact .inr (.inr (.inr (.inl ⟨rfl, by decide⟩)))
  by_cases h5 : s = ⟨#[60]⟩
  · subst h5; exact .inr (.inr (.inr (.inr (.inl ⟨rfl, by decide⟩))))
  by_cases h6 : s = ⟨#[103, 126]⟩
  · subst h6; exact .inr (.inr (.inr (.inr (.inr (.inl ⟨rfl, by decide⟩)))))
  by_cases h7 : s = ⟨#[103, 117]⟩
  · subst h7; exact .inr (.inr (.inr (.inr (.inr (.inr (.inl ⟨rfl, by decide⟩))))))
  by_cases h8 : s = ⟨#[103, 85]⟩
  · subst h8; exact .inr (.inr (.inr (.inr (.inr (.inr (.inr (.inl ⟨rfl, by decide⟩)))))))
  exact .inr (.inr (.inr (.inr (.inr (.inr (.inr (.inr ⟨⟨h1, h2, h3, h4, h5, h6, h7, h8⟩, by rw [if_neg h1, if_neg h2, if_neg h3, if_neg h4, if_neg h5, if_neg h6, if_neg h7, if_neg h8]⟩)))))))
theorem beq_ne {s k : ByteArray} (h : s ≠ k) : (s == k) = false := by
  cases e : (s == k) with
  | true => exact absurd ((MapKept.bytes_beq s k).1 e) h
  | false => rfl
theorem find_no {s : ByteArray} {C1 C2 C3 : Nat} (h : s ≠ ⟨#[100]⟩ ∧ s ≠ ⟨#[99]⟩ ∧ s ≠ ⟨#[121]⟩ ∧ s ≠ ⟨#[62]⟩ ∧ s ≠ ⟨#[60]⟩ ∧ s ≠ ⟨#[103, 126]⟩ ∧ s ≠ ⟨#[103, 117]⟩ ∧ s ≠ ⟨#[103, 85]⟩) : Instr.findNow .string (.string s) (opes C1 C2 C3).toList 0 = some none := by
  obtain ⟨h1, h2, h3, h4, h5, h6, h7, h8⟩ := h
  simp [opes, Instr.findNow, Instr.sameNow, beq_ne h1, beq_ne h2, beq_ne h3, beq_ne h4, beq_ne h5, beq_ne h6, beq_ne h7, beq_ne h8]
/-- what shift tells -/
def shX (l : List UInt8) (o : Option (List Ed)) (a : Nat) : Ef × Int := match o with
  | none => (ef0, 1)
  | some D => (⟨D, fbh l (D.take 1) a, false, false, [], 0, false⟩, 0)
theorem ShQ.ef {l : List UInt8} {o : Option (List Ed)} {a : Nat} {w w' : World} {e : Ending} (h : ShQ l o a w e w') : EfQ (shX l o a).1 (shX l o a).2 w e w' := by
  cases o with
  | none => exact h
  | some D => exact h
/-- letters through a function -/
def leEf (g : Int → Int) (l : List UInt8) (k f t : Nat) (L : Bool) (a : Nat) : Ef := ⟨sw l f t ((sl l f t).map (tw g)), hmc l k f L (a : Int), false, false, [], 0, false⟩
/-- c -/
def cEf (l : List UInt8) (f t : Nat) (L D : Bool) (a b : Nat) : Ef :=
  if L = true then ⟨sw l (sp l a) (en l (sp l b)) [], (sp l a : Int), true, true, tk l f t true D, hwE true (tk l f t true D), true⟩
  else if f = t then ⟨[], (f : Int), false, false, [], 0, true⟩
  else ⟨sw l f t [], (f : Int), true, false, tk l f t false D, hwE false (tk l f t false D), true⟩
/-- an operator, its range known to be right -/
def opX (l : List UInt8) (k o f t : Nat) (L D : Bool) (a b q : Nat) : Ef × Int :=
  if o = 1 then (rEf l f t L D a, 0)
  else if o = 2 then (cEf l f t L D a b, 0)
  else if o = 3 then (yEf l k f t L D (a : Int), 0)
  else if o = 4 then shX l (shf (hdI q) l (b + 1 - a) a 0) a
  else if o = 5 then shX l (shf (hdO q) l (b + 1 - a) a 0) a
  else if o = 6 then (leEf tgB l k f t L a, 0)
  else if o = 7 then (leEf loB l k f t L a, 0)
  else (leEf upB l k f t L a, 0)
/-- Do -/
def doX (l : List UInt8) (at' : Int) (s : ByteArray) (fF tT : Int) (L D : Bool) (q : Int) : Ef × Int :=
  if kn s = 0 ∨ ¬ (0 ≤ at' ∧ at' ≤ (l.length : Int)) ∨ ¬ (1 ≤ q ∧ q ≤ 9999) ∨ (lnO l at'.toNat fF tT L D).2.2 = false then (ef0, 2)
  else if fF = tT ∧ idl (kn s == 1) (kn s == 2) L = true then (ef0, 190)
  else opX l at'.toNat (kn s) fF.toNat tT.toNat L D (lnO l at'.toNat fF tT L D).1.toNat (lnO l at'.toNat fF tT L D).2.1.toNat q.toNat
/-- a range that is right -/
structure RgO (l : List UInt8) (fF tT : Int) (L D : Bool) (x : Int × Int × Bool) (f t a b : Nat) : Prop where
  eF : fF = (f : Int)
  eT : tT = (t : Int)
  eX : x = ((a : Int), (b : Int), true)
  ft : f ≤ t
  tn : t ≤ l.length
  ab : a ≤ b
  bn : b ≤ nl l
  rg : rgB l (f : Int) (t : Int) L D = true
  whO : L = true → wh l (a : Int) (b : Int) = ⟨(f : Int), (t : Int), true, D, 0⟩
theorem isW_yes {l : List UInt8} {a b fF tT : Int} {L D : Bool} (h : isW l a b fF tT L D = true) : wh l a b = ⟨fF, tT, L, D, 0⟩ := by
  unfold isW at h
  simp only [Bool.and_eq_true, beq_iff_eq] at h
  obtain ⟨h1, h2, h3, h4, h5⟩ := h
  cases e : wh l a b with
  | mk F T L' D' E => rw [e] at h1 h2 h3 h4 h5; simp at h1 h2 h3 h4 h5; subst h1 h2 h3 h4 h5; rfl
theorem wh_rgO {l : List UInt8} {a b fF tT : Int} {L D : Bool} (h : wh l a b = ⟨fF, tT, L, D, 0⟩) (hL : L = true) : ∃ f t a' b' : Nat, a = a' ∧ b = b' ∧ RgO l fF tT L D ((a' : Int), (b' : Int), true) f t a' b' := by
  subst hL
  cases hc : (lnB l a && lnB l b && decide (a ≤ b)) with
  | false => rw [wh_no hc] at h; simp [rno] at h
  | true =>
    obtain ⟨a', b', rfl, rfl, h1, h2, h3⟩ := wh_cases hc
    have hw := h
    rw [wh_yes h1 h2 h3] at h
    have hs1 := sp_le (t := l) h1
    have hs2 := sp_le (t := l) h2
    have hs3 := sp_mono h3 h2
    have he1 := en_ge l (sp l b')
    have he2 := en_le hs2
    unfold whY at h
    split at h
    · rename_i hlt
      simp at h
      obtain ⟨rfl, rfl, rfl⟩ := h
      refine ⟨sp l a', en l (sp l b') + 1, a', b', rfl, rfl, ⟨rfl, by omega, rfl, by omega, by omega, h3, h2, rgB_mk (by omega) (by omega) (by omega) (.inl rfl), fun _ => ?_⟩⟩
      rw [hw]; rfl
    · rename_i hlt
      split at h
      · rename_i h0
        simp at h
        obtain ⟨rfl, rfl, rfl⟩ := h
        obtain ⟨i, hi⟩ : ∃ i, a' = i + 1 := ⟨a' - 1, by have : a' ≠ 0 := (fun e => by subst e; rw [sp_zero] at h0; omega); omega⟩
        subst hi
        have hn := sp_next (l := l) h1
        refine ⟨sp l (i + 1) - 1, en l (sp l b'), i + 1, b', rfl, rfl, ⟨by omega, rfl, rfl, by omega, by omega, h3, h2, rgB_mk (by omega) (by omega) (by omega) (.inr ?_), fun _ => ?_⟩⟩
        · unfold leB
          rw [show (((sp l (i + 1) - 1 : Nat) : Int)).toNat = sp l (i + 1) - 1 from rfl, hn.2, Nat.add_sub_cancel, decide_eq_true (by omega), Bool.true_and]
          exact en_edge hn.1
        · rw [hw]; congr 1; omega
      · rename_i h0
        simp at h
        obtain ⟨rfl, rfl, rfl⟩ := h
        refine ⟨sp l a', en l (sp l b'), a', b', rfl, rfl, ⟨rfl, rfl, rfl, by omega, by omega, h3, h2, rgB_mk (by omega) (by omega) (by omega) (.inl rfl), fun _ => ?_⟩⟩
        rw [hw]
theorem lnO_ok {l : List UInt8} {k : Nat} {fF tT : Int} {L D : Bool} (h : (lnO l k fF tT L D).2.2 = true) : ∃ f t a b, RgO l fF tT L D (lnO l k fF tT L D) f t a b := by
  unfold lnO at h ⊢
  split at h
  · cases h
  · rename_i hb
    rw [if_neg hb]
    have h1 : 0 ≤ fF := by omega
    have h2 : fF ≤ tT := by omega
    have h3 : tT ≤ (l.length : Int) := by omega
    obtain ⟨f, rfl⟩ := Int.eq_ofNat_of_zero_le h1
    obtain ⟨t, rfl⟩ := Int.eq_ofNat_of_zero_le (show 0 ≤ tT by omega)
    have hm : (max (f : Int) ((t : Int) - 1)).toNat = max f (t - 1) := by omega
    cases L with
    | false =>
      rw [if_pos rfl]
      refine ⟨f, t, _, _, ⟨rfl, rfl, rfl, by omega, by omega, ?_, ?_, ?_, fun e => by cases e⟩⟩
      · rw [hm]; exact nl_mono l _ _ (by omega)
      · exact nl_take_le _ _
      · unfold rgB; rw [decide_eq_true ⟨by omega, by omega, by omega⟩]; rfl
    | true =>
      rw [if_neg (by simp)] at h ⊢
      generalize ((nl (l.take (f : Int).toNat) : Int) + if D = true then 1 else 0) = aa at h ⊢
      dsimp only at h ⊢
      split at h
      · rename_i hc
        rw [if_pos hc]
        have hc1 := (Bool.and_eq_true_iff.1 hc).1
        obtain ⟨f', t', a', b', e1, e2, hR⟩ := wh_rgO (isW_yes hc1) rfl
        rw [e1, e2]
        exact ⟨f', t', a', b', hR⟩
      · rename_i hc
        rw [if_neg hc]
        dsimp only at h ⊢
        obtain ⟨f', t', a', b', e1, e2, hR⟩ := wh_rgO (isW_yes h) rfl
        rw [e1, e2]
        rw [e1, e2] at h
        rw [h]
        exact ⟨f', t', a', b', hR⟩
end Go.Proofs.YtppefcnopkmhbaaGreatDoor

namespace Go.Proofs.YtppefcnopkmhbaaGreatDoor
open Go.RowKit

set_option maxRecDepth 8000
theorem rfst_call {ao : Option Addr} {n c a en : Nat} {l : List UInt8} {W : World} {eo : Option Addr} {ec : Nat} {E : List Er} {DD : List Ed} (HT : Tx W ao n c l) (hbig : n ≤ 1048576) (ha : a ≤ n + 1) (hen : E.length = en) (he : en ≤ 1048577) (hE : Edz W eo E) (hD : E.map Er.d = DD) (hs : nsum DD ≤ 1073741824) :
    Calls Tryz.prog 30 #[.slice ao n c, .slice eo en ec, .int .i64 (a : Int)] W fun e w' => e = .returned (.int .i64 (fbh l DD a)) ∧ Below W.heap.size W w' :=
  rfst_any ao n c l eo en ec a E W HT (by omega) hE hen (by omega) hD (mod_n (by have := HT.len; omega)) (by omega)
theorem rstart_call {ao : Option Addr} {n c i : Nat} {l : List UInt8} {W : World} (HT : Tx W ao n c l) (hn : n ≤ 1048576) (hi : i ≤ n + 1) :
    Calls Tryz.prog 45 #[.slice ao n c, .int .i64 (i : Int)] W fun e w' => e = .returned (.tuple #[.int .i64 (if i ≤ nl l then (sp l i : Int) else 0), .int .i64 (if i ≤ nl l then 0 else 2)]) ∧ w' = W := by
  have h := refStart_any ao n c (i : Int) l W (by omega) HT
  have e : pr (aStart l (i : Int)) = .returned (.tuple #[.int .i64 (if i ≤ nl l then (sp l i : Int) else 0), .int .i64 (if i ≤ nl l then 0 else 2)]) := by
    by_cases h : i ≤ nl l
    · rw [if_pos h, if_pos h]
      unfold pr aStart ans
      rw [ln_at h]
      rfl
    · rw [if_neg h, if_neg h]
      refine pr_startN ?_
      unfold lnB
      exact decide_eq_false (by omega)
  rw [e] at h
  exact h
theorem tl_ne {s : ByteArray} {k : List UInt8} (h : s ≠ ⟨k.toArray⟩) : (s.toList == k) = false := by
  rw [beq_eq_false_iff_ne]
  intro e
  apply h
  rw [ByteArray.toList_eq] at e
  apply ByteArray.ext
  rw [← e]
set_option maxHeartbeats 2000000 in
theorem rknown_no (s : ByteArray) (w : World) (h : s ≠ ⟨#[100]⟩ ∧ s ≠ ⟨#[99]⟩ ∧ s ≠ ⟨#[121]⟩ ∧ s ≠ ⟨#[62]⟩ ∧ s ≠ ⟨#[60]⟩ ∧ s ≠ ⟨#[103, 126]⟩ ∧ s ≠ ⟨#[103, 117]⟩ ∧ s ≠ ⟨#[103, 85]⟩) :
    Calls Tryz.prog 23 #[.string s] w fun e w' => e = .returned (.bool false) ∧ w' = w := by
  have h1 : (s.toList == [100]) = false := tl_ne h.1
  have h2 : (s.toList == [99]) = false := tl_ne h.2.1
  have h3 : (s.toList == [121]) = false := tl_ne h.2.2.1
  have h4 : (s.toList == [62]) = false := tl_ne h.2.2.2.1
  have h5 : (s.toList == [60]) = false := tl_ne h.2.2.2.2.1
  have h6 : (s.toList == [103, 126]) = false := tl_ne h.2.2.2.2.2.1
  have h7 : (s.toList == [103, 117]) = false := tl_ne h.2.2.2.2.2.2.1
  have h8 : (s.toList == [103, 85]) = false := tl_ne h.2.2.2.2.2.2.2
  clear h
  go_enter Tryz.func23, Tryz.ntmps23
  go_wp2
  go_ret
  exact ⟨rfl, rfl⟩
set_option maxHeartbeats 4000000 in
theorem rknown_yes (s : ByteArray) (w : World) (h : kn s ≠ 0) :
    Calls Tryz.prog 23 #[.string s] w fun e w' => e = .returned (.bool true) ∧ w' = w := by
  rcases kn_cases s with ⟨rfl, -⟩ | ⟨rfl, -⟩ | ⟨rfl, -⟩ | ⟨rfl, -⟩ | ⟨rfl, -⟩ | ⟨rfl, -⟩ | ⟨rfl, -⟩ | ⟨rfl, -⟩ | ⟨-, h0⟩
  all_goals first | (exact absurd h0 h) | (go_enter Tryz.func23, Tryz.ntmps23; go_wp2; go_ret; exact ⟨rfl, rfl⟩)
theorem st8_tab {l : List UInt8} {m : Nat} (h : m < l.length) (h9 : (((at8 l m).toNat : Int) == 9) = true) : st8 (l.drop m) = 1 := by
  have e : at8 l m = 9 := by
    apply UInt8.toNat_inj.1
    have := beq_iff_eq.1 h9
    show (at8 l m).toNat = 9
    omega
  unfold st8
  rw [if_pos]
  rw [List.drop_eq_getElem_cons h, List.take_succ_cons, List.take_zero, ← at8_eq h, e]
theorem st8_sp {l : List UInt8} {m : Nat} (h : m < l.length) (h9 : (((at8 l m).toNat : Int) == 9) = false) : st8 (l.drop m) = ld 32 ((l.drop m).take 8) := by
  unfold st8
  rw [if_neg]
  intro e
  rw [List.drop_eq_getElem_cons h, List.take_succ_cons, List.take_zero, ← at8_eq h] at e
  injection e with e
  rw [e] at h9
  exact absurd h9 (by decide)
theorem at8_tk {l : List UInt8} {m k j : Nat} (h : j < k) : at8 ((l.drop m).take k) j = at8 l (m + j) := by
  unfold at8
  simp [List.getD, h]
set_option maxHeartbeats 4000000 in
theorem rhead_any (ao : Option Addr) (n c q : Nat) (l : List UInt8) (w : World) (HT : Hid (Tx w ao n c l)) (hn : n ≤ 1048576) (hq : q ≤ 9999) :
    Calls Tryz.prog 64 #[.slice ao n c, .int .i64 (q : Int)] w fun e w' => e = .returned (.int .i64 (mgn l q 0 : Int)) ∧ w' = w := by
  have HL := Hid.mk' HT.out.len
  go_enter Tryz.func64, Tryz.ntmps64
  go_wp2_with fail
  go_loopg [5, 6] q (fun M x5 x6 wx => ∃ i m : Nat, x5 = .int .i64 (m : Int) ∧ x6 = .int .i64 (i : Int) ∧ i + M = q ∧ m ≤ n ∧ Hid (mgn l q 0 = mgn l M m) ∧ w = wx)
  case atStart => exact ⟨0, 0, rfl, rfl, by omega, Nat.zero_le _, rfl, rfl⟩
  case round =>
    obtain ⟨i, m, rfl, rfl, him, hmn, HM, rfl⟩ := hrel
    cases gk with
    | zero =>
      have hii : ¬ (i : Int) < (q : Int) := by omega
      have HM2 : Hid (mgn l q 0 = m) := HM.out
      go_wp2
      go_ret
      exact ⟨by rw [HM2.out]; rfl, rfl⟩
    | succ go =>
      have hii : (i : Int) < (q : Int) := by omega
      by_cases hlt : m < n
      · have hlt' : (m : Int) < (n : Int) := by omega
        have hi0 : (0 : Int) ≤ (m : Int) := by omega
        obtain ⟨g, o, rfl, hc⟩ := HT.out.at (by omega)
        have hc0 := hc m hlt
        have hml : m < l.length := by have := HL.out; omega
        have hw1 : IntKind.i64.wrap ((i : Int) + 1) = ((i + 1 : Nat) : Int) := by rw [IntKind.wrap_i64]; omega
        cases h9 : (((at8 l m).toNat : Int) == 9) with
        | true =>
          have hs8 := st8_tab hml h9
          have HS : Hid (mgn l q 0 = mgn l go (m + 1)) := by
            unfold Hid
            rw [HM.out]
            show (if st8 (l.drop m) = 0 then m else mgn l go (m + st8 (l.drop m))) = _
            rw [hs8, if_neg (by decide)]
          have hw2 : IntKind.i64.wrap ((m : Int) + 1) = ((m + 1 : Nat) : Int) := by rw [IntKind.wrap_i64]; omega
          clear HM hs8 hc
          go_wp2
          go_roundg go
          case measure => omega
          case rel => exact ⟨i + 1, m + 1, by go_num, by go_num, by omega, by omega, HS.out, rfl⟩
        | false =>
          have hs8 := st8_sp hml h9
          have hld := ld_le 32 ((l.drop m).take 8)
          rw [List.length_take, List.length_drop, HL.out] at hld
          have hall : ∀ j, j < ld 32 ((l.drop m).take 8) → at8 l (m + j) = 32 := fun j hj => by have := ld_all hj; rwa [at8_tk (by omega)] at this
          have hstop : ld 32 ((l.drop m).take 8) < 8 → m + ld 32 ((l.drop m).take 8) < n → at8 l (m + ld 32 ((l.drop m).take 8)) ≠ 32 := fun h1 h2 => by
            have := ld_stop (b := 32) (l := (l.drop m).take 8) (by rw [List.length_take, List.length_drop, HL.out]; omega)
            rwa [at8_tk h1] at this
          rw [← hs8] at hld hall hstop
          have HM2 : Hid (mgn l q 0 = if st8 (l.drop m) = 0 then m else mgn l go (m + st8 (l.drop m))) := HM.out
          clear HM hs8
          generalize st8 (l.drop m) = d at *
          have HA : Hid (∀ j, j < d → (((at8 l (m + j)).toNat : Int) == 32) = true) := fun j hj => by rw [hall j hj]; rfl
          have HZ : Hid (d < 8 → m + d < n → (((at8 l (m + d)).toNat : Int) == 32) = false) := fun h1 h2 => beq_eq_false_iff_ne.2 (fun e => hstop h1 h2 (UInt8.toNat_inj.1 (by show _ = 32; omega)))
          have HC := Hid.mk' hc
          have hd8 : d ≤ 8 := by omega
          have hdn : m + d ≤ n := by omega
          have hw8 : IntKind.i64.wrap ((m : Int) + 8) = ((m + 8 : Nat) : Int) := by rw [IntKind.wrap_i64]; omega
          clear hall hstop hld hc
          go_upto_region 7 with fail
          go_upto_block 2 with fail
          go_cut [7] from 27 to 50 (fun x7 wx => x7 = .int .i64 ((m + d : Nat) : Int) ∧ w = wx)
          case first =>
            go_wp2_with fail
            go_loopg [7] (d + 1) (fun M x7 wx => ∃ j : Nat, j + M = d + 1 ∧ j ≤ d ∧ x7 = .int .i64 ((m + j : Nat) : Int) ∧ w = wx)
            case atStart => exact ⟨0, by omega, by omega, rfl, rfl⟩
            case round =>
              obtain ⟨j, hjm, hjd, rfl, rfl⟩ := hrel
              obtain ⟨gg, rfl⟩ : ∃ gg, gk = gg + 1 := ⟨gk - 1, by omega⟩
              by_cases hjd2 : j < d
              · have ha : ((m + j : Nat) : Int) < (n : Int) := by omega
                have hb8 : ((m + j : Nat) : Int) < ((m + 8 : Nat) : Int) := by omega
                have hi1 : (0 : Int) ≤ ((m + j : Nat) : Int) := by omega
                have hc1 := HC.out (m + j) (by omega)
                have h32 := HA.out j hjd2
                have hw5 : IntKind.i64.wrap (((m + j : Nat) : Int) + 1) = ((m + (j + 1) : Nat) : Int) := by rw [IntKind.wrap_i64]; omega
                go_wp2
                go_roundg gg
                case measure => omega
                case rel => exact ⟨j + 1, by omega, by omega, by go_num, rfl⟩
              · obtain rfl : j = d := by omega
                by_cases ha : m + j < n
                · have ha' : ((m + j : Nat) : Int) < (n : Int) := by omega
                  by_cases hb : j < 8
                  · have hb8 : ((m + j : Nat) : Int) < ((m + 8 : Nat) : Int) := by omega
                    have hi1 : (0 : Int) ≤ ((m + j : Nat) : Int) := by omega
                    have hc1 := HC.out (m + j) (by omega)
                    have h32 := HZ.out hb ha
                    go_wp2
                    go_meet
                    exact ⟨rfl, rfl⟩
                  · have hb8 : ¬ ((m + j : Nat) : Int) < ((m + 8 : Nat) : Int) := by omega
                    go_wp2
                    go_meet
                    exact ⟨rfl, rfl⟩
                · have ha' : ¬ ((m + j : Nat) : Int) < (n : Int) := by omega
                  go_wp2
                  go_meet
                  exact ⟨rfl, rfl⟩
          case rest =>
            obtain ⟨rfl, rfl⟩ := hcut
            by_cases hd0 : d = 0
            · subst hd0
              have HM3 : Hid (mgn l q 0 = m) := HM2.out
              have he : (((m + 0 : Nat) : Int) == (m : Int)) = true := by simp
              go_wp2
              go_ret
              exact ⟨by rw [HM3.out]; rfl, rfl⟩
            · have HM3 : Hid (mgn l q 0 = mgn l go (m + d)) := by have := HM2.out; rw [if_neg hd0] at this; exact this
              have he : (((m + d : Nat) : Int) == (m : Int)) = false := beq_eq_false_iff_ne.2 (by omega)
              go_wp2
              go_roundg go
              case measure => omega
              case rel => exact ⟨i + 1, m + d, by first | rfl | go_num, by first | rfl | go_num, by omega, by omega, HM3.out, rfl⟩
      · have hlt' : ¬ (m : Int) < (n : Int) := by omega
        have hdr : l.drop m = [] := List.drop_eq_nil_of_le (by have := HL.out; omega)
        have HM2 : Hid (mgn l q 0 = m) := by
          unfold Hid
          rw [HM.out]
          show (if st8 (l.drop m) = 0 then m else mgn l go (m + st8 (l.drop m))) = _
          rw [hdr, if_pos (by decide)]
        go_wp2
        go_ret
        exact ⟨by rw [HM2.out]; rfl, rfl⟩
end Go.Proofs.YtppefcnopkmhbaaGreatDoor

namespace Go.Proofs.YtppefcnopkmhbaaGreatDoor
open Go.RowKit

set_option maxRecDepth 8000
set_option maxHeartbeats 4000000 in
theorem swap_two (w0 : World) (ao : Option Addr) (n c f t : Nat) (l : List UInt8) (xp : Option Addr) (xn xc : Nat) (X : List UInt8) (w : World) (HT : Hid (Tx w ao n c l)) (hft : f ≤ t) (ht : t ≤ n) (hn : n ≤ 140737488355328) (hB : Hid (Below w0.heap.size w0 w)) (HX : Hid (Wb w w0.heap.size w.heap.size (.slice xp xn xc) X)) (hX : X.length ≤ 140737488355328) :
    Calls Tryz.prog 83 #[.slice ao n c, .int .i64 (f : Int), .int .i64 (t : Int), .slice xp xn xc] w fun e w' => EsP (sw l f t X) w0 e w' ∧ Below w.heap.size w w' := by
  have hlen := HT.out.len
  obtain ⟨a3, c3, hs3, hT3⟩ := sl_lh' HT.out hft ht
  have hXl : xn = X.length := by obtain ⟨_, _, e⟩ := HX.out.shape; simp at e; exact e.2.1
  subst hXl
  have hTX := HX.out.tx (by omega)
  have C1 := equal_any a3 (t - f) c3 (sl l f t) xp X.length xc X w hT3 hTX
  have hsl : (sl l f t).length = t - f := sl_len (by omega)
  have h1 : (0 : Int) ≤ (f : Int) := by omega
  have h2 : (f : Int) ≤ (t : Int) := by omega
  have h3 : (t : Int) ≤ (n : Int) := by omega
  have hcap := HT.out.cap
  have h4 : (t : Int) ≤ (c : Int) := by omega
  unfold sw
  rcases beq_of (rfl : (sl l f t == X) = _) with ⟨e, he⟩ | ⟨e, he⟩
  · rw [if_pos e]
    rw [he] at C1
    have C := Hid.mk' C1
    clear C1 he hTX hT3 HX HT
    go_enter Tryz.func83, Tryz.ntmps83
    go_wp2_with (first | (go_at_call 79; refine C.out.mono ?_; rintro e w' ⟨rfl, hw⟩; subst hw) | fail)
    go_ret
    exact ⟨⟨.slice none 0 0, [], rfl, rfl, Eds.nil _ _ _, hB.out⟩, Below.refl _ _⟩
  · rw [if_neg e]
    rw [he] at C1
    have C := Hid.mk' C1
    have C2 := Hid.mk' (cloneW_any a3 (t - f) c3 (sl l f t) w (by omega) hT3)
    have HSL := Hid.mk' hsl
    have HNE := Hid.mk' e
    have HF := Hid.mk' (show (sl l f t).length ≤ 140737488355328 by omega)
    clear C1 he hTX hT3 HT hsl e hlen
    go_enter Tryz.func83, Tryz.ntmps83
    go_wp2_with (first | (go_at_call 79; refine C.out.mono ?_; rintro e w' ⟨rfl, hw⟩; have hq := hw.symm; subst hq; clear hw) | (go_at_call 46; refine C2.out.mono ?_; rintro e w2 ⟨v2, rfl, hW2, hB2⟩; have O2 := Hid.mk' hW2; have B2 := Hid.mk' hB2; obtain ⟨p2, c2, rfl⟩ := hW2.shape; clear hW2 hB2) | fail)
    go_ret
    have O9 := O2.out
    have hb3 := bAlloc (Below.refl w2.heap.size w2) (.cells #[.int .i64 (f : Int), .slice p2 (sl l f t).length c2, .slice xp X.length xc] 65)
    have hs2 := B2.out.size
    have hs0 := hB.out.size
    refine ⟨⟨_, [⟨(f : Int), p2, (sl l f t).length, c2, sl l f t, xp, X.length, xc, X⟩], rfl, rfl, ?_, bT hB.out (bT B2.out hb3)⟩, bT B2.out hb3⟩
    rw [World.size_alloc]
    exact Eds.one (lo := w0.heap.size) (hi := w2.heap.size) (O9.wide hs0 (Nat.le_refl _)) ((HX.out.keep B2.out).wide (Nat.le_refl _) hs2) ((O9.far HX.out (.inr (Nat.le_refl _)))) HF.out hX (Nat.le_refl _) (Nat.le_trans hs0 hs2) hb3 (Blk.new w2 65 _)
end Go.Proofs.YtppefcnopkmhbaaGreatDoor
