/- Opr, Dox, Do -/
import Derived.Test.YtppefcnopkmhbaaDoorPa17
import Derived.MapKept
namespace Go.Proofs.YtppefcnopkmhbaaDoor
open Go.RowKit

set_option maxRecDepth 8000
theorem und_map : ∃ k e, Tryd.prog.underlying 56 = some (.map k e) ∧ Tryd.prog.underlying k = some .string := ⟨9, 54, by kernel_rfl, by kernel_rfl⟩
def Mpb (W : World) (r : Nat) (es : Array MapEntry) (c : Nat) : Prop := W.heap[r]? = some (.map es c)
theorem Mpb.lt {W : World} {r c : Nat} {es : Array MapEntry} (h : Mpb W r es c) : r < W.heap.size := (Array.getElem?_eq_some_iff.1 h).1
theorem Mpb.keep {W W' : World} {r c : Nat} {es : Array MapEntry} (h : Mpb W r es c) (hb : Below W.heap.size W W') : Mpb W' r es c := by unfold Mpb; rw [hb.block r h.lt]; exact h
theorem Blk.grown_map {W W' : World} {B e r : Nat} {cs : Array Value} (h : Blk W B e cs) (hg : W.grownBy W' (some r)) (hne : B ≠ r) : Blk W' B e cs := h.grown hg (by intro h; injection h with h; exact hne h)
theorem ins_any {W : World} {r c : Nat} {es : Array MapEntry} (hb : Mpb W r es c) (k : ByteArray) (v : Value) (hn : Instr.findNow .string (.string k) es.toList 0 = some none) :
    ∃ W', (Instr.mapUpdate 56 (.map (some r)) (.string k) v).run Tryd.prog W = .ok () W' ∧ Mpb W' r (es.push ⟨.string k, v, c⟩) (c + 1) ∧ W.grownBy W' (some r) ∧ W'.heap.size = W.heap.size := by
  obtain ⟨kt, et, hm, hk⟩ := und_map
  have hc : (Instr.checkKey false 10000 kt (.string k)).run Tryd.prog W = .ok () W := MapKept.run_checkKey (k := .string k) hk (by simp [MapKept.IsKey]) false 9999
  refine ⟨{ W with heap := W.heap.setIfInBounds r (.map (es.push ⟨.string k, v, c⟩) (c + 1)) }, ?_, ?_, ⟨rfl, rfl, rfl, by simp, fun k' hk' hne => ?_⟩, by simp⟩
  · simp [Instr.mapUpdate, run_underlying hm, MapKept.run_getObj_map hb, hc, MapKept.run_findKey hk hn, MapKept.run_setObj_map _ hb, Result.andThen]
  · exact (MapKept.heap_set hb).1
  · exact (MapKept.heap_set hb).2 k' (fun e => hne (by rw [e]))
theorem look_any {W : World} {r c : Nat} {es : Array MapEntry} (hb : Mpb W r es c) (s : ByteArray) {i : Nat} {v : Value} (hn : Instr.findNow .string (.string s) es.toList 0 = some (some (i, v))) :
    (Instr.lookup 56 (.map (some r)) (.string s) true).run Tryd.prog W = .ok (.tuple #[v, .bool true]) W := by
  obtain ⟨kt, et, hm, hk⟩ := und_map
  have hc : ∀ b, (Instr.checkKey b 10000 kt (.string s)).run Tryd.prog W = .ok () W := fun b => MapKept.run_checkKey (k := .string s) hk (by simp [MapKept.IsKey]) b 9999
  simp [Instr.lookup, run_underlying hm, MapKept.run_getObj_map hb, hc, MapKept.run_findKey hk hn, Result.andThen]
theorem look_none {W : World} {r c : Nat} {es : Array MapEntry} (hb : Mpb W r es c) (s : ByteArray) (hn : Instr.findNow .string (.string s) es.toList 0 = some none) :
    (Instr.lookup 56 (.map (some r)) (.string s) true).run Tryd.prog W = .ok (.tuple #[.nilFunc, .bool false]) W := by
  have hm : Tryd.prog.underlying 56 = some (.map 9 54) := by kernel_rfl
  have hk : Tryd.prog.underlying 9 = some .string := by kernel_rfl
  have hz : ∀ W, (zeroValue 54).run Tryd.prog W = .ok .nilFunc W := fun W => by kernel_rfl
  have hc : ∀ b, (Instr.checkKey b 10000 9 (.string s)).run Tryd.prog W = .ok () W := fun b => MapKept.run_checkKey (k := .string s) hk (by simp [MapKept.IsKey]) b 9999
  simp [Instr.lookup, run_underlying hm, MapKept.run_getObj_map hb, hc, MapKept.run_findKey hk hn, Result.andThen, hz]
/-- the operators -/
def opes (C1 C2 C3 : Nat) : Array MapEntry := #[⟨.string ⟨#[100]⟩, .func (.func 37) #[] #[], 0⟩, ⟨.string ⟨#[99]⟩, .func (.func 38) #[] #[], 1⟩, ⟨.string ⟨#[121]⟩, .func (.func 39) #[] #[], 2⟩, ⟨.string ⟨#[62]⟩, .func (.func 40) #[] #[], 3⟩, ⟨.string ⟨#[60]⟩, .func (.func 41) #[] #[], 4⟩, ⟨.string ⟨#[103, 126]⟩, .func (.func 68) #[] #[.pointer (some ⟨C1, 0, none⟩)], 5⟩, ⟨.string ⟨#[103, 117]⟩, .func (.func 68) #[] #[.pointer (some ⟨C2, 0, none⟩)], 6⟩, ⟨.string ⟨#[103, 85]⟩, .func (.func 68) #[] #[.pointer (some ⟨C3, 0, none⟩)], 7⟩]
def tfv (f : Nat) : Array Value := #[.func (.func f) #[] #[]]
def OprP (w : World) (e : Ending) (w' : World) : Prop := ∃ r C1 C2 C3, e = .returned (.map (some r)) ∧ Mpb w' r (opes C1 C2 C3) 8 ∧ Blk w' C1 46 (tfv 16) ∧ Blk w' C2 46 (tfv 14) ∧ Blk w' C3 46 (tfv 15) ∧ Below w.heap.size w w'
set_option maxHeartbeats 4000000 in
theorem opr_any (w : World) : Calls Tryd.prog 19 #[] w fun e w' => OprP w e w' := by
  obtain ⟨r, hr⟩ : ∃ r, w.heap.size = r := ⟨_, rfl⟩
  have hM : (Instr.makeMap 56 none).run Tryd.prog w = .ok (.map (some r)) (w.alloc (.map #[] 0)) := by rw [← hr]; rfl
  have m0 : Mpb (w.alloc (.map #[] 0)) r #[] 0 := by rw [← hr]; exact heap_alloc_new w _
  have b0 : Below w.heap.size w (w.alloc (.map #[] 0)) := bAlloc (Below.refl _ _) _
  generalize w.alloc (.map #[] 0) = W0 at *
  obtain ⟨W1, hI0, m1, g1, z1⟩ := ins_any m0 ⟨#[100]⟩ (.func (.func 37) #[] #[]) (by kernel_rfl)
  have b1 : Below w.heap.size w W1 := b0.grown g1 b0.size (fun g hg => by injection hg with hg; omega)
  obtain ⟨W2, hI1, m2, g2, z2⟩ := ins_any m1 ⟨#[99]⟩ (.func (.func 38) #[] #[]) (by kernel_rfl)
  have b2 : Below w.heap.size w W2 := b1.grown g2 b1.size (fun g hg => by injection hg with hg; omega)
  obtain ⟨W3, hI2, m3, g3, z3⟩ := ins_any m2 ⟨#[121]⟩ (.func (.func 39) #[] #[]) (by kernel_rfl)
  have b3 : Below w.heap.size w W3 := b2.grown g3 b2.size (fun g hg => by injection hg with hg; omega)
  obtain ⟨W4, hI3, m4, g4, z4⟩ := ins_any m3 ⟨#[62]⟩ (.func (.func 40) #[] #[]) (by kernel_rfl)
  have b4 : Below w.heap.size w W4 := b3.grown g4 b3.size (fun g hg => by injection hg with hg; omega)
  obtain ⟨W5, hI4, m5, g5, z5⟩ := ins_any m4 ⟨#[60]⟩ (.func (.func 41) #[] #[]) (by kernel_rfl)
  have b5 : Below w.heap.size w W5 := b4.grown g5 b4.size (fun g hg => by injection hg with hg; omega)
  have m5lt := m5.lt
  have sz0 : W5.heap.size ≤ W5.heap.size := Nat.le_refl _
  go_enter Tryd.func19, Tryd.ntmps19
  go_wp2_with (first | (go_at_call 42; (refine (letters_tog W5).mono ?_; rintro e V1 ⟨C1, rfl, hC0, hl0, hb0⟩; have m5k := m5.keep hb0; clear m5; have m5 := m5k; clear m5k; obtain ⟨U1, hI5, m6, g6, z6⟩ := ins_any m5 ⟨#[103, 126]⟩ (.func (.func 68) #[] #[.pointer (some ⟨C1, 0, none⟩)]) (by kernel_rfl); have l0 : r < C1 := (by first | exact Nat.lt_of_lt_of_le m5lt hl0 | exact Nat.lt_of_lt_of_le (Nat.lt_of_lt_of_le m5lt sz0) hl0); have k0 := hC0.grown_map g6 (Nat.ne_of_gt l0); have b6 : Below w.heap.size w U1 := (bT b5 hb0).grown g6 (bT b5 hb0).size (fun g hg => by injection hg with hg; omega); have sz1 : W5.heap.size ≤ U1.heap.size := (by have := hb0.size; omega); clear hC0 hb0)) | (go_at_call 42; (refine (letters_low U1).mono ?_; rintro e V2 ⟨C2, rfl, hC1, hl1, hb1⟩; have m6k := m6.keep hb1; clear m6; have m6 := m6k; clear m6k; obtain ⟨U2, hI6, m7, g7, z7⟩ := ins_any m6 ⟨#[103, 117]⟩ (.func (.func 68) #[] #[.pointer (some ⟨C2, 0, none⟩)]) (by kernel_rfl); have l1 : r < C2 := (by first | exact Nat.lt_of_lt_of_le m5lt hl1 | exact Nat.lt_of_lt_of_le (Nat.lt_of_lt_of_le m5lt sz1) hl1); have k1 := hC1.grown_map g7 (Nat.ne_of_gt l1); have q0 := (k0.keep hb1).grown_map g7 (Nat.ne_of_gt (l0)); clear k0; have k0 := q0; clear q0; have b7 : Below w.heap.size w U2 := (bT b6 hb1).grown g7 (bT b6 hb1).size (fun g hg => by injection hg with hg; omega); have sz2 : W5.heap.size ≤ U2.heap.size := (by have := hb1.size; omega); clear hC1 hb1)) | (go_at_call 42; (refine (letters_upp U2).mono ?_; rintro e V3 ⟨C3, rfl, hC2, hl2, hb2⟩; have m7k := m7.keep hb2; clear m7; have m7 := m7k; clear m7k; obtain ⟨U3, hI7, m8, g8, z8⟩ := ins_any m7 ⟨#[103, 85]⟩ (.func (.func 68) #[] #[.pointer (some ⟨C3, 0, none⟩)]) (by kernel_rfl); have l2 : r < C3 := (by first | exact Nat.lt_of_lt_of_le m5lt hl2 | exact Nat.lt_of_lt_of_le (Nat.lt_of_lt_of_le m5lt sz2) hl2); have k2 := hC2.grown_map g8 (Nat.ne_of_gt l2); have q0 := (k0.keep hb2).grown_map g8 (Nat.ne_of_gt (l0)); clear k0; have k0 := q0; clear q0; have q1 := (k1.keep hb2).grown_map g8 (Nat.ne_of_gt (l1)); clear k1; have k1 := q1; clear q1; have b8 : Below w.heap.size w U3 := (bT b7 hb2).grown g8 (bT b7 hb2).size (fun g hg => by injection hg with hg; omega); have sz3 : W5.heap.size ≤ U3.heap.size := (by have := hb2.size; omega); clear hC2 hb2)) | fail)
  go_ret
  exact ⟨r, C1, C2, C3, rfl, m8, k0, k1, k2, b8⟩
end Go.Proofs.YtppefcnopkmhbaaDoor

namespace Go.Proofs.YtppefcnopkmhbaaDoor
open Go.RowKit

set_option maxRecDepth 8000
/-- which operator -/
def kn (s : ByteArray) : Nat :=
  if s = ⟨#[100]⟩ then 1 else if s = ⟨#[99]⟩ then 2 else if s = ⟨#[121]⟩ then 3 else if s = ⟨#[62]⟩ then 4 else if s = ⟨#[60]⟩ then 5 else if s = ⟨#[103, 126]⟩ then 6 else if s = ⟨#[103, 117]⟩ then 7 else if s = ⟨#[103, 85]⟩ then 8 else 0
theorem kn_cases (s : ByteArray) : (s = ⟨#[100]⟩ ∧ kn s = 1) ∨ (s = ⟨#[99]⟩ ∧ kn s = 2) ∨ (s = ⟨#[121]⟩ ∧ kn s = 3) ∨ (s = ⟨#[62]⟩ ∧ kn s = 4) ∨ (s = ⟨#[60]⟩ ∧ kn s = 5) ∨ (s = ⟨#[103, 126]⟩ ∧ kn s = 6) ∨ (s = ⟨#[103, 117]⟩ ∧ kn s = 7) ∨ (s = ⟨#[103, 85]⟩ ∧ kn s = 8) ∨
    ((s ≠ ⟨#[100]⟩ ∧ s ≠ ⟨#[99]⟩ ∧ s ≠ ⟨#[121]⟩ ∧ s ≠ ⟨#[62]⟩ ∧ s ≠ ⟨#[60]⟩ ∧ s ≠ ⟨#[103, 126]⟩ ∧ s ≠ ⟨#[103, 117]⟩ ∧ s ≠ ⟨#[103, 85]⟩) ∧ kn s = 0) := by
  unfold kn
  by_cases h1 : s = ⟨#[100]⟩
  · subst h1; exact .inl ⟨rfl, by decide⟩
  by_cases h2 : s = ⟨#[99]⟩
  · subst h2; exact .inr (.inl ⟨rfl, by decide⟩)
  by_cases h3 : s = ⟨#[121]⟩
  · subst h3; exact .inr (.inr (.inl ⟨rfl, by decide⟩))
  by_cases h4 : s = ⟨#[62]⟩
  · subst h4; exact .inr (.inr (.inr (.inl ⟨rfl, by decide⟩)))
  by_cases h5 : s = ⟨#[60]⟩
  · subst h5; exact .inr (.inr (.inr (.inr (.inl ⟨rfl, by decide⟩))))
  by_cases h6 : s = ⟨#[103, 126]⟩
  · subst h6; exact .inr (.inr (.inr (.inr (.inr (.inl ⟨rfl, by decide⟩)))))
  by_cases h7 : s = ⟨#[103, 117]⟩
  · subst h7; exact .inr (.inr (.inr (.inr (.inr (.inr (.inl ⟨rfl, by decide⟩))))))
  by_cases h8 : s = ⟨#[103, 85]⟩
  · subst h8; exact .inr (.inr (.inr (.inr (.inr (.inr (.inr (.inl ⟨rfl, by decide⟩)))))))
  exact .inr (.inr (.inr (.inr (.inr (.inr (.inr (.inr ⟨⟨h1, h2, h3, h4, h5, h6, h7, h8⟩, by rw [if_neg h1, if_neg h2, if_neg h3, if_neg h4, if_neg h5, if_neg h6, if_neg h7, if_neg h8]⟩)))))))
theorem beq_ne {s k : ByteArray} (h : s ≠ k) : (s == k) = false := by
  cases e : (s == k) with
  | true => exact absurd ((MapKept.bytes_beq s k).1 e) h
  | false => rfl
theorem find_no {s : ByteArray} {C1 C2 C3 : Nat} (h : s ≠ ⟨#[100]⟩ ∧ s ≠ ⟨#[99]⟩ ∧ s ≠ ⟨#[121]⟩ ∧ s ≠ ⟨#[62]⟩ ∧ s ≠ ⟨#[60]⟩ ∧ s ≠ ⟨#[103, 126]⟩ ∧ s ≠ ⟨#[103, 117]⟩ ∧ s ≠ ⟨#[103, 85]⟩) : Instr.findNow .string (.string s) (opes C1 C2 C3).toList 0 = some none := by
  obtain ⟨h1, h2, h3, h4, h5, h6, h7, h8⟩ := h
  simp [opes, Instr.findNow, Instr.sameNow, beq_ne h1, beq_ne h2, beq_ne h3, beq_ne h4, beq_ne h5, beq_ne h6, beq_ne h7, beq_ne h8]
/-- what shift tells -/
def shX (l : List UInt8) (o : Option (List Ed)) (a : Nat) : Ef × Int := match o with
  | none => (ef0, 1)
  | some D => (⟨D, fbh l (D.take 1) a, false, false, [], 0, false⟩, 0)
theorem ShQ.ef {l : List UInt8} {o : Option (List Ed)} {a : Nat} {w w' : World} {e : Ending} (h : ShQ l o a w e w') : EfQ (shX l o a).1 (shX l o a).2 w e w' := by
  cases o with
  | none => exact h
  | some D => exact h
/-- letters through a function -/
def leEf (g : Int → Int) (l : List UInt8) (k f t : Nat) (L : Bool) (a : Nat) : Ef := ⟨sw l f t ((sl l f t).map (tw g)), hmc l k f L (a : Int), false, false, [], 0, false⟩
/-- c -/
def cEf (l : List UInt8) (f t : Nat) (L D : Bool) (a b : Nat) : Ef :=
  if L = true then ⟨sw l (sp l a) (en l (sp l b)) [], (sp l a : Int), true, true, tk l f t true D, hwE true (tk l f t true D), true⟩
  else if f = t then ⟨[], (f : Int), false, false, [], 0, true⟩
  else ⟨sw l f t [], (f : Int), true, false, tk l f t false D, hwE false (tk l f t false D), true⟩
/-- an operator, its range known to be right -/
def opX (l : List UInt8) (k o f t : Nat) (L D : Bool) (a b q : Nat) : Ef × Int :=
  if o = 1 then (rEf l f t L D a, 0)
  else if o = 2 then (cEf l f t L D a b, 0)
  else if o = 3 then (yEf l k f t L D (a : Int), 0)
  else if o = 4 then shX l (shf (hdI q) l (b + 1 - a) a 0) a
  else if o = 5 then shX l (shf (hdO q) l (b + 1 - a) a 0) a
  else if o = 6 then (leEf tgB l k f t L a, 0)
  else if o = 7 then (leEf loB l k f t L a, 0)
  else (leEf upB l k f t L a, 0)
/-- Do -/
def doX (l : List UInt8) (at' : Int) (s : ByteArray) (fF tT : Int) (L D : Bool) (q : Int) : Ef × Int :=
  if kn s = 0 ∨ ¬ (0 ≤ at' ∧ at' ≤ (l.length : Int)) ∨ ¬ (1 ≤ q ∧ q ≤ 9999) ∨ (lnO l at'.toNat fF tT L D).2.2 = false then (ef0, 2)
  else if fF = tT ∧ idl (kn s == 1) (kn s == 2) L = true then (ef0, 190)
  else opX l at'.toNat (kn s) fF.toNat tT.toNat L D (lnO l at'.toNat fF tT L D).1.toNat (lnO l at'.toNat fF tT L D).2.1.toNat q.toNat
/-- a range that is right -/
structure RgO (l : List UInt8) (fF tT : Int) (L D : Bool) (x : Int × Int × Bool) (f t a b : Nat) : Prop where
  eF : fF = (f : Int)
  eT : tT = (t : Int)
  eX : x = ((a : Int), (b : Int), true)
  ft : f ≤ t
  tn : t ≤ l.length
  ab : a ≤ b
  bn : b ≤ nl l
  rg : rgB l (f : Int) (t : Int) L D = true
  whO : L = true → wh l (a : Int) (b : Int) = ⟨(f : Int), (t : Int), true, D, 0⟩
theorem isW_yes {l : List UInt8} {a b fF tT : Int} {L D : Bool} (h : isW l a b fF tT L D = true) : wh l a b = ⟨fF, tT, L, D, 0⟩ := by
  unfold isW at h
  simp only [Bool.and_eq_true, beq_iff_eq] at h
  obtain ⟨h1, h2, h3, h4, h5⟩ := h
  cases e : wh l a b with
  | mk F T L' D' E => rw [e] at h1 h2 h3 h4 h5; simp at h1 h2 h3 h4 h5; subst h1 h2 h3 h4 h5; rfl
theorem wh_rgO {l : List UInt8} {a b fF tT : Int} {L D : Bool} (h : wh l a b = ⟨fF, tT, L, D, 0⟩) (hL : L = true) : ∃ f t a' b' : Nat, a = a' ∧ b = b' ∧ RgO l fF tT L D ((a' : Int), (b' : Int), true) f t a' b' := by
  subst hL
  cases hc : (lnB l a && lnB l b && decide (a ≤ b)) with
  | false => rw [wh_no hc] at h; simp [rno] at h
  | true =>
    obtain ⟨a', b', rfl, rfl, h1, h2, h3⟩ := wh_cases hc
    have hw := h
    rw [wh_yes h1 h2 h3] at h
    have hs1 := sp_le (t := l) h1
    have hs2 := sp_le (t := l) h2
    have hs3 := sp_mono h3 h2
    have he1 := en_ge l (sp l b')
    have he2 := en_le hs2
    unfold whY at h
    split at h
    · rename_i hlt
      simp at h
      obtain ⟨rfl, rfl, rfl⟩ := h
      refine ⟨sp l a', en l (sp l b') + 1, a', b', rfl, rfl, ⟨rfl, by omega, rfl, by omega, by omega, h3, h2, rgB_mk (by omega) (by omega) (by omega) (.inl rfl), fun _ => ?_⟩⟩
      rw [hw]; rfl
    · rename_i hlt
      split at h
      · rename_i h0
        simp at h
        obtain ⟨rfl, rfl, rfl⟩ := h
        obtain ⟨i, hi⟩ : ∃ i, a' = i + 1 := ⟨a' - 1, by have : a' ≠ 0 := (fun e => by subst e; rw [sp_zero] at h0; omega); omega⟩
        subst hi
        have hn := sp_next (l := l) h1
        refine ⟨sp l (i + 1) - 1, en l (sp l b'), i + 1, b', rfl, rfl, ⟨by omega, rfl, rfl, by omega, by omega, h3, h2, rgB_mk (by omega) (by omega) (by omega) (.inr ?_), fun _ => ?_⟩⟩
        · unfold leB
          rw [show (((sp l (i + 1) - 1 : Nat) : Int)).toNat = sp l (i + 1) - 1 from rfl, hn.2, Nat.add_sub_cancel, decide_eq_true (by omega), Bool.true_and]
          exact en_edge hn.1
        · rw [hw]; congr 1; omega
      · rename_i h0
        simp at h
        obtain ⟨rfl, rfl, rfl⟩ := h
        refine ⟨sp l a', en l (sp l b'), a', b', rfl, rfl, ⟨rfl, rfl, rfl, by omega, by omega, h3, h2, rgB_mk (by omega) (by omega) (by omega) (.inl rfl), fun _ => ?_⟩⟩
        rw [hw]
theorem lnO_ok {l : List UInt8} {k : Nat} {fF tT : Int} {L D : Bool} (h : (lnO l k fF tT L D).2.2 = true) : ∃ f t a b, RgO l fF tT L D (lnO l k fF tT L D) f t a b := by
  unfold lnO at h ⊢
  split at h
  · cases h
  · rename_i hb
    rw [if_neg hb]
    have h1 : 0 ≤ fF := by omega
    have h2 : fF ≤ tT := by omega
    have h3 : tT ≤ (l.length : Int) := by omega
    obtain ⟨f, rfl⟩ := Int.eq_ofNat_of_zero_le h1
    obtain ⟨t, rfl⟩ := Int.eq_ofNat_of_zero_le (show 0 ≤ tT by omega)
    have hm : (max (f : Int) ((t : Int) - 1)).toNat = max f (t - 1) := by omega
    cases L with
    | false =>
      rw [if_pos rfl]
      refine ⟨f, t, _, _, ⟨rfl, rfl, rfl, by omega, by omega, ?_, ?_, ?_, fun e => by cases e⟩⟩
      · rw [hm]; exact nl_mono l _ _ (by omega)
      · exact nl_take_le _ _
      · unfold rgB; rw [decide_eq_true ⟨by omega, by omega, by omega⟩]; rfl
    | true =>
      rw [if_neg (by simp)] at h ⊢
      generalize ((nl (l.take (f : Int).toNat) : Int) + if D = true then 1 else 0) = aa at h ⊢
      dsimp only at h ⊢
      split at h
      · rename_i hc
        rw [if_pos hc]
        have hc1 := (Bool.and_eq_true_iff.1 hc).1
        obtain ⟨f', t', a', b', e1, e2, hR⟩ := wh_rgO (isW_yes hc1) rfl
        rw [e1, e2]
        exact ⟨f', t', a', b', hR⟩
      · rename_i hc
        rw [if_neg hc]
        dsimp only at h ⊢
        obtain ⟨f', t', a', b', e1, e2, hR⟩ := wh_rgO (isW_yes h) rfl
        rw [e1, e2]
        rw [e1, e2] at h
        rw [h]
        exact ⟨f', t', a', b', hR⟩
end Go.Proofs.YtppefcnopkmhbaaDoor

namespace Go.Proofs.YtppefcnopkmhbaaDoor
open Go.RowKit

set_option maxRecDepth 8000
def rgC (fF tT : Int) (L D : Bool) : Array Value := #[.int .i64 fF, .int .i64 tT, .bool L, .bool D]
/-- Do's boxes -/
structure Dob (w W : World) (fF tT : Int) (L D : Bool) : Prop where
  bel : Below w.heap.size w W
  rg : Blk W w.heap.size 37 (rgC fF tT L D)
  ef : Blk W (w.heap.size + 1) 32 (ef7 (.slice none 0 0) 0 false false (.slice none 0 0) 0 false)
theorem Dob.new (w : World) (fF tT : Int) (L D : Bool) : Dob w ((w.alloc (.cells (rgC fF tT L D) 37)).alloc (.cells (ef7 (.slice none 0 0) 0 false false (.slice none 0 0) 0 false) 32)) fF tT L D :=
  ⟨bAlloc (bAlloc (Below.refl _ _) _) _, (Blk.new w 37 _).keep (bAlloc (Below.refl _ _) _), by have := Blk.new (w.alloc (.cells (rgC fF tT L D) 37)) 32 (ef7 (.slice none 0 0) 0 false false (.slice none 0 0) 0 false); rwa [World.size_alloc] at this⟩
theorem rgC_cells {W : World} {B : Nat} {fF tT : Int} {L D : Bool} (h : Blk W B 37 (rgC fF tT L D)) :
    W.cell? ⟨B, 0, none⟩ = some (.int .i64 fF) ∧ W.cell? ⟨B, 1, none⟩ = some (.int .i64 tT) ∧ W.cell? ⟨B, 2, none⟩ = some (.bool L) ∧ W.cell? ⟨B, 3, none⟩ = some (.bool D) :=
  ⟨h.cell rfl, h.cell rfl, h.cell rfl, h.cell rfl⟩
set_option maxHeartbeats 8000000 in
set_option linter.unusedSimpArgs false in
theorem do_none (ao : Option Addr) (n c : Nat) (l : List UInt8) (at' : Int) (s : ByteArray) (fF tT : Int) (L D : Bool) (q : Int) (w : World) (HT : Hid (Tx w ao n c l)) (hs : kn s = 0) :
    Calls Tryd.prog 9 #[.slice ao n c, .int .i64 at', .string s, .agg #[.int .i64 fF, .int .i64 tT, .bool L, .bool D], .int .i64 q] w fun e w' => EfQ ef0 2 w e w' := by
  have hno : s ≠ ⟨#[100]⟩ ∧ s ≠ ⟨#[99]⟩ ∧ s ≠ ⟨#[121]⟩ ∧ s ≠ ⟨#[62]⟩ ∧ s ≠ ⟨#[60]⟩ ∧ s ≠ ⟨#[103, 126]⟩ ∧ s ≠ ⟨#[103, 117]⟩ ∧ s ≠ ⟨#[103, 85]⟩ := by
    rcases kn_cases s with ⟨_, h⟩ | ⟨_, h⟩ | ⟨_, h⟩ | ⟨_, h⟩ | ⟨_, h⟩ | ⟨_, h⟩ | ⟨_, h⟩ | ⟨_, h⟩ | ⟨h, _⟩ <;> first | exact h | (rw [h] at hs; cases hs)
  obtain ⟨W1, hW1⟩ : ∃ x, (w.alloc (.cells #[.int .i64 fF, .int .i64 tT, .bool L, .bool D] 37)).alloc (.cells #[.slice none 0 0, .int .i64 0, .bool false, .bool false, .slice none 0 0, .int .i64 0, .bool false] 32) = x := ⟨_, rfl⟩
  have T1 : Hid (Dob w W1 fF tT L D) := by unfold Hid; rw [← hW1]; exact Dob.new w _ _ _ _
  have HT1 := Hid.mk' (HT.out.keep T1.out.bel)
  have HLN := Hid.mk' HT.out.len
  have CM := Hid.mk' (opr_any W1)
  obtain ⟨B, hB⟩ : ∃ b, w.heap.size = b := ⟨_, rfl⟩
  have HB := Hid.mk' hB
  have K1 : Hid (Blk W1 B 37 (rgC fF tT L D)) := by unfold Hid; rw [← hB]; exact T1.out.rg
  have J1 : Hid (Blk W1 (B + 1) 32 (ef7 (.slice none 0 0) 0 false false (.slice none 0 0) 0 false)) := by unfold Hid; rw [← hB]; exact T1.out.ef
  have L1 := Hid.mk' T1.out.bel
  go_enter Tryd.func9, Tryd.ntmps9
  go_upto_region 1 with fail
  clear hW1 hB T1 HT
  go_upto_region 2 with (first | (go_at_call 19; refine CM.out.mono ?_; rintro e w2 ⟨r, C1, C2, C3, rfl, hm, k1, k2, k3, hb2⟩; have hlk := look_none hm s (find_no hno); have K2 := Hid.mk' (K1.out.keep hb2); have J2 := Hid.mk' (J1.out.keep hb2); have B2 := Hid.mk' hb2; have M1 := Hid.mk' k1; have M2 := Hid.mk' k2; have M3 := Hid.mk' k3; clear hb2 K1 J1 k1 k2 k3 hm; obtain ⟨c0, c1, c2, c3⟩ := rgC_cells K2.out) | fail)
  clear hlk
  go_upto_region 3 with fail
  obtain ⟨j0, j1, j2, j3, j4, j5, j6⟩ := ef_cells J2.out
  obtain ⟨f0, f1, f2, f3, f4, f5, f6⟩ := ef_frozen J2.out
  have hbk := ef_store J2.out (.slice none 0 0) (.int .i64 0) (.bool false) (.bool false) (.slice none 0 0) (.int .i64 0) (.bool false)
  have hgr := ef_grown w2 (B + 1) (.slice none 0 0) (.int .i64 0) (.bool false) (.bool false) (.slice none 0 0) (.int .i64 0) (.bool false)
  go_wp2_with fail
  generalize (((((((w2.setCell ⟨B + 1, 0, none⟩ (.slice none 0 0)).setCell ⟨B + 1, 1, none⟩ (.int .i64 0)).setCell ⟨B + 1, 2, none⟩ (.bool false)).setCell ⟨B + 1, 3, none⟩ (.bool false)).setCell ⟨B + 1, 4, none⟩ (.slice none 0 0)).setCell ⟨B + 1, 5, none⟩ (.int .i64 0)).setCell ⟨B + 1, 6, none⟩ (.bool false)) = w9 at *
  obtain ⟨g0, g1, g2, g3, g4, g5, g6⟩ := ef_cells hbk
  refine bodyPost_ret (v := .tuple #[efz, .int .i64 2]) (by simp [results, efz, Tryd.results9, go_sem, g0, g1, g2, g3, g4, g5, g6]) rfl (EfQ.no ?_)
  exact (bT L1.out B2.out).grown hgr (bT L1.out B2.out).size (fun g hg => by injection hg with hg; rw [← hg, HB.out]; exact Nat.le_succ B)
set_option maxHeartbeats 8000000 in
set_option linter.unusedSimpArgs false in
theorem do_args (ao : Option Addr) (n c : Nat) (l : List UInt8) (at' : Int) (s : ByteArray) (fF tT : Int) (L D : Bool) (q : Int) (w : World) (HT : Hid (Tx w ao n c l)) (hf : ∀ C1 C2 C3, ∃ i v, Instr.findNow .string (.string s) (opes C1 C2 C3).toList 0 = some (some (i, v))) (h : ¬ ((0 ≤ at' ∧ at' ≤ (n : Int)) ∧ cntB q = true)) :
    Calls Tryd.prog 9 #[.slice ao n c, .int .i64 at', .string s, .agg #[.int .i64 fF, .int .i64 tT, .bool L, .bool D], .int .i64 q] w fun e w' => EfQ ef0 2 w e w' := by
  obtain ⟨W1, hW1⟩ : ∃ x, (w.alloc (.cells #[.int .i64 fF, .int .i64 tT, .bool L, .bool D] 37)).alloc (.cells #[.slice none 0 0, .int .i64 0, .bool false, .bool false, .slice none 0 0, .int .i64 0, .bool false] 32) = x := ⟨_, rfl⟩
  have T1 : Hid (Dob w W1 fF tT L D) := by unfold Hid; rw [← hW1]; exact Dob.new w _ _ _ _
  have HT1 := Hid.mk' (HT.out.keep T1.out.bel)
  have HLN := Hid.mk' HT.out.len
  have CM := Hid.mk' (opr_any W1)
  obtain ⟨B, hB⟩ : ∃ b, w.heap.size = b := ⟨_, rfl⟩
  have HB := Hid.mk' hB
  have K1 : Hid (Blk W1 B 37 (rgC fF tT L D)) := by unfold Hid; rw [← hB]; exact T1.out.rg
  have J1 : Hid (Blk W1 (B + 1) 32 (ef7 (.slice none 0 0) 0 false false (.slice none 0 0) 0 false)) := by unfold Hid; rw [← hB]; exact T1.out.ef
  have L1 := Hid.mk' T1.out.bel
  go_enter Tryd.func9, Tryd.ntmps9
  go_upto_region 1 with fail
  clear hW1 hB T1 HT
  go_upto_region 2 with (first | (go_at_call 19; refine CM.out.mono ?_; rintro e w2 ⟨r, C1, C2, C3, rfl, hm, k1, k2, k3, hb2⟩; obtain ⟨i9, v9, hf9⟩ := hf C1 C2 C3; have hlk := look_any hm s hf9; have K2 := Hid.mk' (K1.out.keep hb2); have J2 := Hid.mk' (J1.out.keep hb2); have B2 := Hid.mk' hb2; have M1 := Hid.mk' k1; have M2 := Hid.mk' k2; have M3 := Hid.mk' k3; clear hb2 K1 J1 k1 k2 k3 hm; obtain ⟨c0, c1, c2, c3⟩ := rgC_cells K2.out) | fail)
  clear hlk
  by_cases hp : (0 ≤ at' ∧ at' ≤ (n : Int))
  · have hq9 : cntB q = false := by cases e : cntB q with
      | true => exact absurd ⟨hp, e⟩ h
      | false => rfl
    have hp9 : decide (0 ≤ at' ∧ at' ≤ (n : Int)) = true := decide_eq_true hp
    go_upto_region 3 with (first | (go_at_call 20; have CP := oplace_any ao n c at' w2; rw [hp9] at CP; refine CP.mono ?_; rintro e w' ⟨rfl, hw⟩; have hq := hw.symm; subst hq; clear hw CP) | (go_at_call 21; have CP := ocount_any q w2; rw [hq9] at CP; refine CP.mono ?_; rintro e w' ⟨rfl, hw⟩; have hq := hw.symm; subst hq; clear hw CP) | fail)
    obtain ⟨j0, j1, j2, j3, j4, j5, j6⟩ := ef_cells J2.out
    obtain ⟨f0, f1, f2, f3, f4, f5, f6⟩ := ef_frozen J2.out
    have hbk := ef_store J2.out (.slice none 0 0) (.int .i64 0) (.bool false) (.bool false) (.slice none 0 0) (.int .i64 0) (.bool false)
    have hgr := ef_grown w2 (B + 1) (.slice none 0 0) (.int .i64 0) (.bool false) (.bool false) (.slice none 0 0) (.int .i64 0) (.bool false)
    go_wp2_with fail
    generalize (((((((w2.setCell ⟨B + 1, 0, none⟩ (.slice none 0 0)).setCell ⟨B + 1, 1, none⟩ (.int .i64 0)).setCell ⟨B + 1, 2, none⟩ (.bool false)).setCell ⟨B + 1, 3, none⟩ (.bool false)).setCell ⟨B + 1, 4, none⟩ (.slice none 0 0)).setCell ⟨B + 1, 5, none⟩ (.int .i64 0)).setCell ⟨B + 1, 6, none⟩ (.bool false)) = w9 at *
    obtain ⟨g0, g1, g2, g3, g4, g5, g6⟩ := ef_cells hbk
    refine bodyPost_ret (v := .tuple #[efz, .int .i64 2]) (by simp [results, efz, Tryd.results9, go_sem, g0, g1, g2, g3, g4, g5, g6]) rfl (EfQ.no ?_)
    exact (bT L1.out B2.out).grown hgr (bT L1.out B2.out).size (fun g hg => by injection hg with hg; rw [← hg, HB.out]; exact Nat.le_succ B)
  · have hp9 : decide (0 ≤ at' ∧ at' ≤ (n : Int)) = false := decide_eq_false hp
    go_upto_region 3 with (first | (go_at_call 20; have CP := oplace_any ao n c at' w2; rw [hp9] at CP; refine CP.mono ?_; rintro e w' ⟨rfl, hw⟩; have hq := hw.symm; subst hq; clear hw CP) | fail)
    obtain ⟨j0, j1, j2, j3, j4, j5, j6⟩ := ef_cells J2.out
    obtain ⟨f0, f1, f2, f3, f4, f5, f6⟩ := ef_frozen J2.out
    have hbk := ef_store J2.out (.slice none 0 0) (.int .i64 0) (.bool false) (.bool false) (.slice none 0 0) (.int .i64 0) (.bool false)
    have hgr := ef_grown w2 (B + 1) (.slice none 0 0) (.int .i64 0) (.bool false) (.bool false) (.slice none 0 0) (.int .i64 0) (.bool false)
    go_wp2_with fail
    generalize (((((((w2.setCell ⟨B + 1, 0, none⟩ (.slice none 0 0)).setCell ⟨B + 1, 1, none⟩ (.int .i64 0)).setCell ⟨B + 1, 2, none⟩ (.bool false)).setCell ⟨B + 1, 3, none⟩ (.bool false)).setCell ⟨B + 1, 4, none⟩ (.slice none 0 0)).setCell ⟨B + 1, 5, none⟩ (.int .i64 0)).setCell ⟨B + 1, 6, none⟩ (.bool false)) = w9 at *
    obtain ⟨g0, g1, g2, g3, g4, g5, g6⟩ := ef_cells hbk
    refine bodyPost_ret (v := .tuple #[efz, .int .i64 2]) (by simp [results, efz, Tryd.results9, go_sem, g0, g1, g2, g3, g4, g5, g6]) rfl (EfQ.no ?_)
    exact (bT L1.out B2.out).grown hgr (bT L1.out B2.out).size (fun g hg => by injection hg with hg; rw [← hg, HB.out]; exact Nat.le_succ B)
set_option maxHeartbeats 8000000 in
set_option linter.unusedSimpArgs false in
theorem do_lines (ao : Option Addr) (n c : Nat) (l : List UInt8) (at' : Int) (s : ByteArray) (fF tT : Int) (L D : Bool) (q : Int) (w : World) (HT : Hid (Tx w ao n c l)) (hf : ∀ C1 C2 C3, ∃ i v, Instr.findNow .string (.string s) (opes C1 C2 C3).toList 0 = some (some (i, v))) (hp : 0 ≤ at' ∧ at' ≤ (n : Int)) (hq9 : cntB q = true) (hl : (lnO l at'.toNat fF tT L D).2.2 = false) :
    Calls Tryd.prog 9 #[.slice ao n c, .int .i64 at', .string s, .agg #[.int .i64 fF, .int .i64 tT, .bool L, .bool D], .int .i64 q] w fun e w' => EfQ ef0 2 w e w' := by
  obtain ⟨W1, hW1⟩ : ∃ x, (w.alloc (.cells #[.int .i64 fF, .int .i64 tT, .bool L, .bool D] 37)).alloc (.cells #[.slice none 0 0, .int .i64 0, .bool false, .bool false, .slice none 0 0, .int .i64 0, .bool false] 32) = x := ⟨_, rfl⟩
  have T1 : Hid (Dob w W1 fF tT L D) := by unfold Hid; rw [← hW1]; exact Dob.new w _ _ _ _
  have HT1 := Hid.mk' (HT.out.keep T1.out.bel)
  have HLN := Hid.mk' HT.out.len
  have CM := Hid.mk' (opr_any W1)
  obtain ⟨B, hB⟩ : ∃ b, w.heap.size = b := ⟨_, rfl⟩
  have HB := Hid.mk' hB
  have K1 : Hid (Blk W1 B 37 (rgC fF tT L D)) := by unfold Hid; rw [← hB]; exact T1.out.rg
  have J1 : Hid (Blk W1 (B + 1) 32 (ef7 (.slice none 0 0) 0 false false (.slice none 0 0) 0 false)) := by unfold Hid; rw [← hB]; exact T1.out.ef
  have L1 := Hid.mk' T1.out.bel
  have hp9 : decide (0 ≤ at' ∧ at' ≤ (n : Int)) = true := decide_eq_true hp
  obtain ⟨k, hk⟩ : ∃ k : Nat, at' = (k : Int) := ⟨at'.toNat, by omega⟩
  subst hk
  have CL : Hid (∀ W, Below W1.heap.size W1 W → Calls Tryd.prog 22 #[.slice ao n c, .int .i64 (k : Int), .agg #[.int .i64 fF, .int .i64 tT, .bool L, .bool D]] W fun e w' => e = .returned (lnV (lnO l k fF tT L D)) ∧ Below W.heap.size W w') := fun W hW => linesOf_any' ao n c k fF tT L D l W (HT1.out.keep hW) (by omega)
  unfold lnV at CL
  rw [show ((k : Int)).toNat = k from rfl] at hl
  generalize lnO l k fF tT L D = x at *
  obtain ⟨x1, x2, x3⟩ := x
  dsimp only at hl CL
  subst hl
  go_enter Tryd.func9, Tryd.ntmps9
  go_upto_region 1 with fail
  clear hW1 hB T1 HT
  go_upto_region 2 with (first | (go_at_call 19; refine CM.out.mono ?_; rintro e w2 ⟨r, C1, C2, C3, rfl, hm, k1, k2, k3, hb2⟩; obtain ⟨i9, v9, hf9⟩ := hf C1 C2 C3; have hlk := look_any hm s hf9; have K2 := Hid.mk' (K1.out.keep hb2); have J2 := Hid.mk' (J1.out.keep hb2); have B2 := Hid.mk' hb2; have M1 := Hid.mk' k1; have M2 := Hid.mk' k2; have M3 := Hid.mk' k3; clear hb2 K1 J1 k1 k2 k3 hm; obtain ⟨c0, c1, c2, c3⟩ := rgC_cells K2.out) | fail)
  clear hlk
  go_upto_region 4 with (first | (go_at_call 20; have CP := oplace_any ao n c (k : Int) w2; rw [hp9] at CP; refine CP.mono ?_; rintro e w' ⟨rfl, hw⟩; have hq := hw.symm; subst hq; clear hw CP) | (go_at_call 21; have CP := ocount_any q w2; rw [hq9] at CP; refine CP.mono ?_; rintro e w' ⟨rfl, hw⟩; have hq := hw.symm; subst hq; clear hw CP) | fail)
  go_upto_region 6 with (first | (go_at_call 22; refine (CL.out w2 B2.out).mono ?_; rintro e w3 ⟨rfl, hb3⟩; have K3 := Hid.mk' (K2.out.keep hb3); have J3 := Hid.mk' (J2.out.keep hb3); have B3 := Hid.mk' (bT B2.out hb3); have N1 := Hid.mk' (M1.out.keep hb3); have N2 := Hid.mk' (M2.out.keep hb3); have N3 := Hid.mk' (M3.out.keep hb3); clear hb3 K2 J2 B2 M1 M2 M3 CL c0 c1 c2 c3; obtain ⟨c0, c1, c2, c3⟩ := rgC_cells K3.out) | fail)
  obtain ⟨j0, j1, j2, j3, j4, j5, j6⟩ := ef_cells J3.out
  obtain ⟨f0, f1, f2, f3, f4, f5, f6⟩ := ef_frozen J3.out
  have hbk := ef_store J3.out (.slice none 0 0) (.int .i64 0) (.bool false) (.bool false) (.slice none 0 0) (.int .i64 0) (.bool false)
  have hgr := ef_grown w3 (B + 1) (.slice none 0 0) (.int .i64 0) (.bool false) (.bool false) (.slice none 0 0) (.int .i64 0) (.bool false)
  go_wp2_with fail
  generalize (((((((w3.setCell ⟨B + 1, 0, none⟩ (.slice none 0 0)).setCell ⟨B + 1, 1, none⟩ (.int .i64 0)).setCell ⟨B + 1, 2, none⟩ (.bool false)).setCell ⟨B + 1, 3, none⟩ (.bool false)).setCell ⟨B + 1, 4, none⟩ (.slice none 0 0)).setCell ⟨B + 1, 5, none⟩ (.int .i64 0)).setCell ⟨B + 1, 6, none⟩ (.bool false)) = w9 at *
  obtain ⟨g0, g1, g2, g3, g4, g5, g6⟩ := ef_cells hbk
  refine bodyPost_ret (v := .tuple #[efz, .int .i64 2]) (by simp [results, efz, Tryd.results9, go_sem, g0, g1, g2, g3, g4, g5, g6]) rfl (EfQ.no ?_)
  exact (bT L1.out B3.out).grown hgr (bT L1.out B3.out).size (fun g hg => by injection hg with hg; rw [← hg, HB.out]; exact Nat.le_succ B)
set_option maxHeartbeats 8000000 in
set_option linter.unusedSimpArgs false in
theorem do_idle (ao : Option Addr) (n c : Nat) (l : List UInt8) (at' : Int) (s : ByteArray) (fF tT : Int) (L D : Bool) (q : Int) (w : World) (HT : Hid (Tx w ao n c l)) (isd isc : Bool) (hsd : (s.toList == [100]) = isd) (hsc : (s.toList == [99]) = isc) (hf : ∀ C1 C2 C3, ∃ i v, Instr.findNow .string (.string s) (opes C1 C2 C3).toList 0 = some (some (i, v))) (hp : 0 ≤ at' ∧ at' ≤ (n : Int)) (hq9 : cntB q = true) (hl : (lnO l at'.toNat fF tT L D).2.2 = true) (he : fF = tT) (hi : idl isd isc L = true) :
    Calls Tryd.prog 9 #[.slice ao n c, .int .i64 at', .string s, .agg #[.int .i64 fF, .int .i64 tT, .bool L, .bool D], .int .i64 q] w fun e w' => EfQ ef0 190 w e w' := by
  obtain ⟨W1, hW1⟩ : ∃ x, (w.alloc (.cells #[.int .i64 fF, .int .i64 tT, .bool L, .bool D] 37)).alloc (.cells #[.slice none 0 0, .int .i64 0, .bool false, .bool false, .slice none 0 0, .int .i64 0, .bool false] 32) = x := ⟨_, rfl⟩
  have T1 : Hid (Dob w W1 fF tT L D) := by unfold Hid; rw [← hW1]; exact Dob.new w _ _ _ _
  have HT1 := Hid.mk' (HT.out.keep T1.out.bel)
  have HLN := Hid.mk' HT.out.len
  have CM := Hid.mk' (opr_any W1)
  obtain ⟨B, hB⟩ : ∃ b, w.heap.size = b := ⟨_, rfl⟩
  have HB := Hid.mk' hB
  have K1 : Hid (Blk W1 B 37 (rgC fF tT L D)) := by unfold Hid; rw [← hB]; exact T1.out.rg
  have J1 : Hid (Blk W1 (B + 1) 32 (ef7 (.slice none 0 0) 0 false false (.slice none 0 0) 0 false)) := by unfold Hid; rw [← hB]; exact T1.out.ef
  have L1 := Hid.mk' T1.out.bel
  have hp9 : decide (0 ≤ at' ∧ at' ≤ (n : Int)) = true := decide_eq_true hp
  obtain ⟨k, hk⟩ : ∃ k : Nat, at' = (k : Int) := ⟨at'.toNat, by omega⟩
  subst hk
  have CL : Hid (∀ W, Below W1.heap.size W1 W → Calls Tryd.prog 22 #[.slice ao n c, .int .i64 (k : Int), .agg #[.int .i64 fF, .int .i64 tT, .bool L, .bool D]] W fun e w' => e = .returned (lnV (lnO l k fF tT L D)) ∧ Below W.heap.size W w') := fun W hW => linesOf_any' ao n c k fF tT L D l W (HT1.out.keep hW) (by omega)
  unfold lnV at CL
  rw [show ((k : Int)).toNat = k from rfl] at hl
  generalize lnO l k fF tT L D = x at *
  obtain ⟨x1, x2, x3⟩ := x
  dsimp only at hl CL
  subst hl
  subst he
  go_enter Tryd.func9, Tryd.ntmps9
  go_upto_region 1 with fail
  clear hW1 hB T1 HT
  go_upto_region 2 with (first | (go_at_call 19; refine CM.out.mono ?_; rintro e w2 ⟨r, C1, C2, C3, rfl, hm, k1, k2, k3, hb2⟩; obtain ⟨i9, v9, hf9⟩ := hf C1 C2 C3; have hlk := look_any hm s hf9; have K2 := Hid.mk' (K1.out.keep hb2); have J2 := Hid.mk' (J1.out.keep hb2); have B2 := Hid.mk' hb2; have M1 := Hid.mk' k1; have M2 := Hid.mk' k2; have M3 := Hid.mk' k3; clear hb2 K1 J1 k1 k2 k3 hm; obtain ⟨c0, c1, c2, c3⟩ := rgC_cells K2.out) | fail)
  clear hlk
  go_upto_region 4 with (first | (go_at_call 20; have CP := oplace_any ao n c (k : Int) w2; rw [hp9] at CP; refine CP.mono ?_; rintro e w' ⟨rfl, hw⟩; have hq := hw.symm; subst hq; clear hw CP) | (go_at_call 21; have CP := ocount_any q w2; rw [hq9] at CP; refine CP.mono ?_; rintro e w' ⟨rfl, hw⟩; have hq := hw.symm; subst hq; clear hw CP) | fail)
  go_upto_region 8 with (first | (go_at_call 22; refine (CL.out w2 B2.out).mono ?_; rintro e w3 ⟨rfl, hb3⟩; have K3 := Hid.mk' (K2.out.keep hb3); have J3 := Hid.mk' (J2.out.keep hb3); have B3 := Hid.mk' (bT B2.out hb3); have N1 := Hid.mk' (M1.out.keep hb3); have N2 := Hid.mk' (M2.out.keep hb3); have N3 := Hid.mk' (M3.out.keep hb3); clear hb3 K2 J2 B2 M1 M2 M3 CL c0 c1 c2 c3; obtain ⟨c0, c1, c2, c3⟩ := rgC_cells K3.out) | (go_at_call 23; have CI := idle_any s isd isc L w3 hsd hsc; rw [hi] at CI; refine CI.mono ?_; rintro e w' ⟨rfl, hw⟩; have hq := hw.symm; subst hq; clear hw CI) | fail)
  obtain ⟨j0, j1, j2, j3, j4, j5, j6⟩ := ef_cells J3.out
  obtain ⟨f0, f1, f2, f3, f4, f5, f6⟩ := ef_frozen J3.out
  have hbk := ef_store J3.out (.slice none 0 0) (.int .i64 0) (.bool false) (.bool false) (.slice none 0 0) (.int .i64 0) (.bool false)
  have hgr := ef_grown w3 (B + 1) (.slice none 0 0) (.int .i64 0) (.bool false) (.bool false) (.slice none 0 0) (.int .i64 0) (.bool false)
  go_wp2_with fail
  generalize (((((((w3.setCell ⟨B + 1, 0, none⟩ (.slice none 0 0)).setCell ⟨B + 1, 1, none⟩ (.int .i64 0)).setCell ⟨B + 1, 2, none⟩ (.bool false)).setCell ⟨B + 1, 3, none⟩ (.bool false)).setCell ⟨B + 1, 4, none⟩ (.slice none 0 0)).setCell ⟨B + 1, 5, none⟩ (.int .i64 0)).setCell ⟨B + 1, 6, none⟩ (.bool false)) = w9 at *
  obtain ⟨g0, g1, g2, g3, g4, g5, g6⟩ := ef_cells hbk
  refine bodyPost_ret (v := .tuple #[efz, .int .i64 190]) (by simp [results, efz, Tryd.results9, go_sem, g0, g1, g2, g3, g4, g5, g6]) rfl (EfQ.no ?_)
  exact (bT L1.out B3.out).grown hgr (bT L1.out B3.out).size (fun g hg => by injection hg with hg; rw [← hg, HB.out]; exact Nat.le_succ B)
end Go.Proofs.YtppefcnopkmhbaaDoor
