/- Psh, Opr, Dox -/
import Derived.Test.YtppefcnopkmhbaaGreatDoorPa17
import Derived.Test.YtppefcnopkmhbaaGreatDoorPa02
import Derived.Test.YtppefcnopkmhbaaGreatDoorPa09
import Derived.MapKept
namespace Go.Proofs.YtppefcnopkmhbaaGreatDoor
open Go.RowKit

set_option maxRecDepth 8000
/-- the text of the lines f i .. f (i + m) -/
def tj (f : Nat → List UInt8) : Nat → Nat → List UInt8
  | 0, i => f i
  | m + 1, i => f i ++ 10 :: tj f m (i + 1)
theorem tj_congr {f g : Nat → List UInt8} : ∀ (m i : Nat), (∀ j, i ≤ j → j ≤ i + m → f j = g j) → tj f m i = tj g m i
  | 0, i, h => h i (Nat.le_refl i) (by omega)
  | m + 1, i, h => by
    show f i ++ 10 :: tj f m (i + 1) = g i ++ 10 :: tj g m (i + 1)
    rw [h i (Nat.le_refl i) (by omega), tj_congr m (i + 1) (fun j h1 h2 => h j (by omega) (by omega))]
theorem at8_lf {l : List UInt8} {e : Nat} (h : e < l.length) (hl : le (at8 l e) = true) : l.drop e = 10 :: l.drop (e + 1) := by
  have h1 : at8 l e = 10 := by rw [le_ten] at hl; exact eq_of_beq hl
  rw [at8_eq h] at h1
  rw [List.drop_eq_getElem_cons h, h1]
theorem drop_ln (l : List UInt8) {i : Nat} (_h : i ≤ nl l) : l.drop (sp l i) = ln l i ++ l.drop (en l (sp l i)) := by
  unfold ln
  have h1 := en_ge l (sp l i)
  conv => lhs; rw [← List.take_append_drop (en l (sp l i) - sp l i) (l.drop (sp l i))]
  rw [List.drop_drop, show sp l i + (en l (sp l i) - sp l i) = en l (sp l i) by omega]
theorem drop_tj (l : List UInt8) : ∀ (m i : Nat), i + m = nl l → l.drop (sp l i) = tj (ln l) m i
  | 0, i, h => by
    obtain rfl : i = nl l := by omega
    rw [drop_ln l (Nat.le_refl _), en_last, List.drop_length, List.append_nil]
    rfl
  | m + 1, i, h => by
    obtain ⟨h1, h2⟩ := sp_next (l := l) (i := i) (by omega)
    rw [drop_ln l (by omega), at8_lf h1 (en_edge h1), ← h2, drop_tj l m (i + 1) (by omega)]
    rfl
theorem all_tj (l : List UInt8) : tj (ln l) (nl l) 0 = l := by
  have h := drop_tj l (nl l) 0 (by omega)
  rw [sp_zero, List.drop_zero] at h
  exact h.symm
/-- a line without a line end -/
def nolf (p : List UInt8) : Prop := ∀ x ∈ p, le x = false
theorem nl_nolf {p : List UInt8} (h : nolf p) : nl p = 0 := by
  unfold nl
  exact List.countP_eq_zero.2 (fun x hx => by rw [h x hx]; simp)
theorem ln_nolf (l : List UInt8) (i : Nat) : nolf (ln l i) := by
  intro x hx
  obtain ⟨j, hj, rfl⟩ := List.getElem_of_mem hx
  have h1 := en_ge l (sp l i)
  unfold ln at hj ⊢
  rw [List.length_take, List.length_drop] at hj
  have := en_none (t := l) (s := sp l i) (j := sp l i + j) (by omega) (by omega)
  rw [at8_eq (by omega)] at this
  simpa using this
/-- the lines of a text that is put together of lines -/
theorem tj_ln (f : Nat → List UInt8) : ∀ (m i : Nat) (Q : List UInt8), (∀ j, i ≤ j → j ≤ i + m → nolf (f j)) → St (Q ++ tj f m i) i Q.length →
    nl (Q ++ tj f m i) = i + m ∧ ∀ j, j ≤ m → ln (Q ++ tj f m i) (i + j) = f (i + j)
  | 0, i, Q, hn, hs => by
    have hf : nolf (f i) := hn i (Nat.le_refl i) (by omega)
    have hnum : nl Q = i := by have := hs.num; rwa [List.take_left'] at this; rfl
    refine ⟨by show nl (Q ++ f i) = _; rw [nl_append, nl_nolf hf, hnum], fun j hj => ?_⟩
    obtain rfl : j = 0 := by omega
    have he : en (Q ++ tj f 0 i) Q.length = (Q ++ f i).length := en_eq (by rw [List.length_append]; omega) (by exact Nat.le_refl _) (fun j h1 h2 => by
      show le (at8 (Q ++ f i) j) = false
      rw [at8_eq h2, List.getElem_append_right h1]
      exact hf _ (List.getElem_mem _)) (.inl rfl)
    unfold ln
    rw [Nat.add_zero, sp_eq hs, he]
    show ((Q ++ f i).drop Q.length).take _ = f i
    rw [List.drop_left' rfl, List.length_append, List.take_of_length_le (by omega)]
  | m + 1, i, Q, hn, hs => by
    have hf : nolf (f i) := hn i (Nat.le_refl i) (by omega)
    have hnum : nl Q = i := by have := hs.num; rwa [List.take_left'] at this; rfl
    have e : Q ++ tj f (m + 1) i = (Q ++ f i ++ [10]) ++ tj f m (i + 1) := by
      show Q ++ (f i ++ 10 :: tj f m (i + 1)) = _
      simp
    have hl : (Q ++ f i ++ [10] ++ tj f m (i + 1)).length = Q.length + (f i).length + 1 + (tj f m (i + 1)).length := by simp; omega
    have hlt : Q.length + (f i).length < (Q ++ f i ++ [10] ++ tj f m (i + 1)).length := by omega
    have h10 : at8 (Q ++ f i ++ [10] ++ tj f m (i + 1)) (Q.length + (f i).length) = 10 := by
      rw [at8_eq hlt, List.getElem_append_left (by simp), List.getElem_append_right (by simp)]
      simp
    have he : en (Q ++ tj f (m + 1) i) Q.length = Q.length + (f i).length := by
      rw [e]
      refine en_eq (by omega) (by omega) (fun j h1 h2 => ?_) (.inr (by rw [h10]; decide +kernel))
      rw [at8_eq (by omega), List.getElem_append_left (by simp; omega), List.getElem_append_left (by simp; omega), List.getElem_append_right h1]
      exact hf _ (List.getElem_mem _)
    have hs' : St (Q ++ f i ++ [10] ++ tj f m (i + 1)) (i + 1) (Q ++ f i ++ [10]).length := by
      have hql : (Q ++ f i ++ [10]).length = Q.length + (f i).length + 1 := by simp; omega
      refine ⟨by omega, ?_, .inr ⟨by omega, ?_⟩⟩
      · rw [List.take_left' rfl, nl_append, nl_append, hnum, nl_nolf hf]; rfl
      · rw [hql, Nat.add_sub_cancel, h10]; decide +kernel
    obtain ⟨g1, g2⟩ := tj_ln f m (i + 1) (Q ++ f i ++ [10]) (fun j h1 h2 => hn j (by omega) (by omega)) hs'
    refine ⟨by rw [e, g1]; omega, fun j hj => ?_⟩
    rcases Nat.eq_zero_or_pos j with h0 | h0
    · subst h0
      show ln (Q ++ tj f (m + 1) i) i = f i
      unfold ln
      rw [sp_eq hs, he]
      show ((Q ++ (f i ++ 10 :: tj f m (i + 1))).drop Q.length).take _ = f i
      rw [List.drop_left' rfl, show Q.length + (f i).length - Q.length = (f i).length by omega, List.take_left' rfl]
    · have := g2 (j - 1) (by omega)
      rw [show i + 1 + (j - 1) = i + j by omega] at this
      rw [e]; exact this
theorem tj_lines {f : Nat → List UInt8} {m : Nat} (h : ∀ j, j ≤ m → nolf (f j)) : nl (tj f m 0) = m ∧ ∀ j, j ≤ m → ln (tj f m 0) j = f j := by
  obtain ⟨h1, h2⟩ := tj_ln f m 0 [] (fun j _ hj => h j (by omega)) (St.zero _)
  rw [List.nil_append] at h1 h2
  refine ⟨by omega, fun j hj => ?_⟩
  have := h2 j hj
  rwa [Nat.zero_add] at this
/-- what a line becomes -/
def nw (hd : List UInt8 → Nat × Nat) (p : List UInt8) : List UInt8 := rp [9] (hd p).2 ++ p.drop (hd p).1
/-- the lines then -/
def lw (hd : List UInt8 → Nat × Nat) (f : Nat → List UInt8) (a m : Nat) (j : Nat) : List UInt8 := if a ≤ j ∧ j < a + m then nw hd (f j) else f j
theorem ln_len {l : List UInt8} {i : Nat} (h : i ≤ nl l) : sp l i + (ln l i).length = en l (sp l i) := by
  rw [ln_length h]
  have := en_ge l (sp l i)
  omega
theorem rp9_len (k : Nat) : (rp [9] k).length = k := by rw [rp_len]; simp
theorem fit_at {P R : List UInt8} {O N : List UInt8} {z : Int} (hz : z = (P.length : Int)) (hO : R.take O.length = O) : fitB (P ++ R) ⟨z, O, N⟩ = true ∧ stp (P ++ R) ⟨z, O, N⟩ = P ++ N ++ R.drop O.length := by
  subst hz
  refine ⟨fitB_iff.2 ⟨P.length, rfl, by simp, ?_⟩, ?_⟩
  · rw [List.drop_left' rfl]; exact hO
  · unfold stp
    show (P ++ R).take P.length ++ N ++ (P ++ R).drop (P.length + O.length) = _
    rw [List.take_left' rfl, ← List.drop_drop, List.drop_left' rfl]
/-- shift's edits, applied -/
theorem app_shf (hd : List UInt8 → Nat × Nat) (l : List UInt8) (hle : ∀ p, (hd p).1 ≤ p.length) (F : Nat → List UInt8) : ∀ (c m i : Nat) (g : Int) (D : List Ed) (P : List UInt8), i + m = nl l → c ≤ m + 1 →
    shf hd l c i g = some D → (P.length : Int) = (sp l i : Int) + g → (∀ j, i ≤ j → j < i + c → F j = nw hd (ln l j)) → (∀ j, i + c ≤ j → F j = ln l j) →
    app (P ++ tj (ln l) m i) D = some (P ++ tj F m i)
  | 0, m, i, g, D, P, _, _, hD, _, _, h2 => by
    injection hD with hD
    subst hD
    rw [tj_congr m i (fun j hj _ => (h2 j (by omega)))]
    rfl
  | c + 1, m, i, g, D, P, him, hc, hD, hP, h1, h2 => by
    unfold shf at hD
    split at hD
    · cases hD
    · obtain ⟨D', hD', rfl⟩ := Option.map_eq_some_iff.1 hD
      have hF := h1 i (Nat.le_refl i) (by omega)
      have hx := hle (ln l i)
      generalize hxx : (hd (ln l i)).1 = x at *
      generalize hyy : (hd (ln l i)).2 = y at *
      have hnw : nw hd (ln l i) = rp [9] y ++ (ln l i).drop x := by unfold nw; rw [hxx, hyy]
      -- the first edit
      have step : ∀ R, app (P ++ (ln l i ++ R)) (if 0 < x + y then [⟨(sp l i : Int) + g, (ln l i).take x, rp [9] y⟩] else []) = some (P ++ nw hd (ln l i) ++ R) := by
        intro R
        split
        · have ht : ((ln l i).take x).length = x := by rw [List.length_take]; omega
          obtain ⟨f1, f2⟩ := fit_at (P := P) (R := ln l i ++ R) (O := (ln l i).take x) (N := rp [9] y) hP.symm (by rw [ht, List.take_append_of_le_length hx])
          show (if fitB _ _ then app (stp _ _) [] else none) = _
          rw [f1, if_pos rfl, f2, ht, List.drop_append_of_le_length hx, hnw]
          show some _ = some _
          simp
        · obtain rfl : x = 0 := by omega
          obtain rfl : y = 0 := by omega
          rw [hnw]
          show some _ = some _
          simp [rp]
      rw [app_append]
      match m, him, hc, step with
      | 0, him, hc, step =>
        obtain rfl : c = 0 := by omega
        injection hD' with hD'
        subst hD'
        have := step []
        rw [List.append_nil, List.append_nil] at this
        show (app (P ++ ln l i) _).bind _ = some (P ++ F i)
        rw [this, hF]
        rfl
      | m + 1, him, hc, step =>
        obtain ⟨e1, e2⟩ := sp_next (l := l) (i := i) (by omega)
        have e3 := ln_len (l := l) (i := i) (by omega)
        show (app (P ++ (ln l i ++ 10 :: tj (ln l) m (i + 1))) _).bind _ = some (P ++ (F i ++ 10 :: tj F m (i + 1)))
        rw [step, hF]
        show app (P ++ nw hd (ln l i) ++ 10 :: tj (ln l) m (i + 1)) D' = _
        have ih := app_shf hd l hle F c m (i + 1) (g + ((y : Int) - (x : Int))) D' (P ++ nw hd (ln l i) ++ [10]) (by omega) (by omega) hD' (by
          rw [List.length_append, List.length_append, hnw, List.length_append, rp9_len, List.length_drop]
          simp only [List.length_cons, List.length_nil]
          omega) (fun j q1 q2 => h1 j (by omega) (by omega)) (fun j q => h2 j (by omega))
        have a1 : P ++ nw hd (ln l i) ++ [10] ++ tj (ln l) m (i + 1) = P ++ nw hd (ln l i) ++ 10 :: tj (ln l) m (i + 1) := by simp
        have a2 : P ++ nw hd (ln l i) ++ [10] ++ tj F m (i + 1) = P ++ (nw hd (ln l i) ++ 10 :: tj F m (i + 1)) := by simp
        rw [a1, a2] at ih
        exact ih
/-- the whole of it -/
theorem app_lines {hd : List UInt8 → Nat × Nat} {l : List UInt8} (hle : ∀ p, (hd p).1 ≤ p.length) {a m : Nat} {D : List Ed} (ham : a + m ≤ nl l + 1) (hm : 1 ≤ m) (hD : shf hd l m a 0 = some D) :
    app l D = some (tj (lw hd (ln l) a m) (nl l) 0) := by
  have han : a ≤ nl l := by omega
  have hs := sp_le (t := l) han
  have h := app_shf hd l hle (lw hd (ln l) a m) m (nl l - a) a 0 D (l.take (sp l a)) (by omega) (by omega) hD (by rw [List.length_take]; omega)
    (fun j h1 h2 => if_pos ⟨h1, h2⟩) (fun j h1 => if_neg (by omega))
  rw [← drop_tj l (nl l - a) a (by omega), List.take_append_drop] at h
  rw [h]
  congr 1
  -- the lines ahead
  have key : ∀ (k i : Nat), i + k = a → (l.take (sp l a)).drop (sp l i) ++ tj (lw hd (ln l) a m) (nl l - a) a = tj (lw hd (ln l) a m) (nl l - i) i := by
    intro k
    induction k with
    | zero =>
      intro i hi
      obtain rfl : i = a := by omega
      rw [List.drop_of_length_le (by rw [List.length_take]; omega), List.nil_append]
    | succ k ih =>
      intro i hi
      obtain ⟨e1, e2⟩ := sp_next (l := l) (i := i) (by omega)
      have e3 := sp_mono (l := l) (i := i + 1) (j := a) (by omega) han
      have e4 := en_ge l (sp l i)
      have := ih (i + 1) (by omega)
      rw [show nl l - i = (nl l - (i + 1)) + 1 by omega]
      show _ = lw hd (ln l) a m i ++ 10 :: tj (lw hd (ln l) a m) (nl l - (i + 1)) (i + 1)
      rw [← this]
      unfold lw
      rw [if_neg (by omega)]
      rw [show (l.take (sp l a)).drop (sp l i) = ln l i ++ 10 :: (l.take (sp l a)).drop (sp l (i + 1)) from ?_]
      · simp
      · rw [List.drop_take, List.drop_take, drop_ln l (by omega), at8_lf e1 (en_edge e1), ← e2]
        have e5 := ln_len (l := l) (i := i) (by omega)
        rw [List.take_append, List.take_of_length_le (by omega)]
        congr 1
        rw [show sp l a - sp l i - (ln l i).length = (sp l a - sp l (i + 1)) + 1 by omega, List.take_succ_cons]
  have := key a 0 (by omega)
  rw [sp_zero, List.drop_zero, Nat.sub_zero] at this
  exact this
end Go.Proofs.YtppefcnopkmhbaaGreatDoor

namespace Go.Proofs.YtppefcnopkmhbaaGreatDoor
open Go.RowKit

set_option maxRecDepth 8000
theorem und_map : ∃ k e, Tryz.prog.underlying 84 = some (.map k e) ∧ Tryz.prog.underlying k = some .string := ⟨9, 82, by kernel_rfl, by kernel_rfl⟩
def Mpb (W : World) (r : Nat) (es : Array MapEntry) (c : Nat) : Prop := W.heap[r]? = some (.map es c)
theorem Mpb.lt {W : World} {r c : Nat} {es : Array MapEntry} (h : Mpb W r es c) : r < W.heap.size := (Array.getElem?_eq_some_iff.1 h).1
theorem Mpb.keep {W W' : World} {r c : Nat} {es : Array MapEntry} (h : Mpb W r es c) (hb : Below W.heap.size W W') : Mpb W' r es c := by unfold Mpb; rw [hb.block r h.lt]; exact h
theorem Blk.grown_map {W W' : World} {B e r : Nat} {cs : Array Value} (h : Blk W B e cs) (hg : W.grownBy W' (some r)) (hne : B ≠ r) : Blk W' B e cs := h.grown hg (by intro h; injection h with h; exact hne h)
theorem ins_any {W : World} {r c : Nat} {es : Array MapEntry} (hb : Mpb W r es c) (k : ByteArray) (v : Value) (hn : Instr.findNow .string (.string k) es.toList 0 = some none) :
    ∃ W', (Instr.mapUpdate 84 (.map (some r)) (.string k) v).run Tryz.prog W = .ok () W' ∧ Mpb W' r (es.push ⟨.string k, v, c⟩) (c + 1) ∧ W.grownBy W' (some r) ∧ W'.heap.size = W.heap.size := by
  obtain ⟨kt, et, hm, hk⟩ := und_map
  have hc : (Instr.checkKey false 10000 kt (.string k)).run Tryz.prog W = .ok () W := MapKept.run_checkKey (k := .string k) hk (by simp [MapKept.IsKey]) false 9999
  refine ⟨{ W with heap := W.heap.setIfInBounds r (.map (es.push ⟨.string k, v, c⟩) (c + 1)) }, ?_, ?_, ⟨rfl, rfl, rfl, by simp, fun k' hk' hne => ?_⟩, by simp⟩
  · simp [Instr.mapUpdate, run_underlying hm, MapKept.run_getObj_map hb, hc, MapKept.run_findKey hk hn, MapKept.run_setObj_map _ hb, Result.andThen]
  · exact (MapKept.heap_set hb).1
  · exact (MapKept.heap_set hb).2 k' (fun e => hne (by rw [e]))
theorem look_any {W : World} {r c : Nat} {es : Array MapEntry} (hb : Mpb W r es c) (s : ByteArray) {i : Nat} {v : Value} (hn : Instr.findNow .string (.string s) es.toList 0 = some (some (i, v))) :
    (Instr.lookup 84 (.map (some r)) (.string s) true).run Tryz.prog W = .ok (.tuple #[v, .bool true]) W := by
  obtain ⟨kt, et, hm, hk⟩ := und_map
  have hc : ∀ b, (Instr.checkKey b 10000 kt (.string s)).run Tryz.prog W = .ok () W := fun b => MapKept.run_checkKey (k := .string s) hk (by simp [MapKept.IsKey]) b 9999
  simp [Instr.lookup, run_underlying hm, MapKept.run_getObj_map hb, hc, MapKept.run_findKey hk hn, Result.andThen]
theorem look_none {W : World} {r c : Nat} {es : Array MapEntry} (hb : Mpb W r es c) (s : ByteArray) (hn : Instr.findNow .string (.string s) es.toList 0 = some none) :
    (Instr.lookup 84 (.map (some r)) (.string s) true).run Tryz.prog W = .ok (.tuple #[.nilFunc, .bool false]) W := by
  have hm : Tryz.prog.underlying 84 = some (.map 9 82) := by kernel_rfl
  have hk : Tryz.prog.underlying 9 = some .string := by kernel_rfl
  have hz : ∀ W, (zeroValue 82).run Tryz.prog W = .ok .nilFunc W := fun W => by kernel_rfl
  have hc : ∀ b, (Instr.checkKey b 10000 9 (.string s)).run Tryz.prog W = .ok () W := fun b => MapKept.run_checkKey (k := .string s) hk (by simp [MapKept.IsKey]) b 9999
  simp [Instr.lookup, run_underlying hm, MapKept.run_getObj_map hb, hc, MapKept.run_findKey hk hn, Result.andThen, hz]
/-- the operators -/
def opes (C1 C2 C3 : Nat) : Array MapEntry := #[⟨.string ⟨#[100]⟩, .func (.func 68) #[] #[], 0⟩, ⟨.string ⟨#[99]⟩, .func (.func 69) #[] #[], 1⟩, ⟨.string ⟨#[121]⟩, .func (.func 70) #[] #[], 2⟩, ⟨.string ⟨#[62]⟩, .func (.func 71) #[] #[], 3⟩, ⟨.string ⟨#[60]⟩, .func (.func 72) #[] #[], 4⟩, ⟨.string ⟨#[103, 126]⟩, .func (.func 106) #[] #[.pointer (some ⟨C1, 0, none⟩)], 5⟩, ⟨.string ⟨#[103, 117]⟩, .func (.func 106) #[] #[.pointer (some ⟨C2, 0, none⟩)], 6⟩, ⟨.string ⟨#[103, 85]⟩, .func (.func 106) #[] #[.pointer (some ⟨C3, 0, none⟩)], 7⟩]
def tfv (f : Nat) : Array Value := #[.func (.func f) #[] #[]]
def OprP (w : World) (e : Ending) (w' : World) : Prop := ∃ r C1 C2 C3, e = .returned (.map (some r)) ∧ Mpb w' r (opes C1 C2 C3) 8 ∧ Blk w' C1 110 (tfv 74) ∧ Blk w' C2 110 (tfv 75) ∧ Blk w' C3 110 (tfv 76) ∧ Below w.heap.size w w'
set_option maxHeartbeats 4000000 in
theorem opr_any (w : World) : Calls Tryz.prog 35 #[] w fun e w' => OprP w e w' := by
  obtain ⟨r, hr⟩ : ∃ r, w.heap.size = r := ⟨_, rfl⟩
  have hM : (Instr.makeMap 84 none).run Tryz.prog w = .ok (.map (some r)) (w.alloc (.map #[] 0)) := by rw [← hr]; rfl
  have m0 : Mpb (w.alloc (.map #[] 0)) r #[] 0 := by rw [← hr]; exact heap_alloc_new w _
  have b0 : Below w.heap.size w (w.alloc (.map #[] 0)) := bAlloc (Below.refl _ _) _
  generalize w.alloc (.map #[] 0) = W0 at *
  obtain ⟨W1, hI0, m1, g1, z1⟩ := ins_any m0 ⟨#[100]⟩ (.func (.func 68) #[] #[]) (by kernel_rfl)
  have b1 : Below w.heap.size w W1 := b0.grown g1 b0.size (fun g hg => by injection hg with hg; omega)
  obtain ⟨W2, hI1, m2, g2, z2⟩ := ins_any m1 ⟨#[99]⟩ (.func (.func 69) #[] #[]) (by kernel_rfl)
  have b2 : Below w.heap.size w W2 := b1.grown g2 b1.size (fun g hg => by injection hg with hg; omega)
  obtain ⟨W3, hI2, m3, g3, z3⟩ := ins_any m2 ⟨#[121]⟩ (.func (.func 70) #[] #[]) (by kernel_rfl)
  have b3 : Below w.heap.size w W3 := b2.grown g3 b2.size (fun g hg => by injection hg with hg; omega)
  obtain ⟨W4, hI3, m4, g4, z4⟩ := ins_any m3 ⟨#[62]⟩ (.func (.func 71) #[] #[]) (by kernel_rfl)
  have b4 : Below w.heap.size w W4 := b3.grown g4 b3.size (fun g hg => by injection hg with hg; omega)
  obtain ⟨W5, hI4, m5, g5, z5⟩ := ins_any m4 ⟨#[60]⟩ (.func (.func 72) #[] #[]) (by kernel_rfl)
  have b5 : Below w.heap.size w W5 := b4.grown g5 b4.size (fun g hg => by injection hg with hg; omega)
  have m5lt := m5.lt
  have sz0 : W5.heap.size ≤ W5.heap.size := Nat.le_refl _
  go_enter Tryz.func35, Tryz.ntmps35
  go_wp2_with (first | (go_at_call 73; (refine (letters_tog W5).mono ?_; rintro e V1 ⟨C1, rfl, hC0, hl0, hb0⟩; have m5k := m5.keep hb0; clear m5; have m5 := m5k; clear m5k; obtain ⟨U1, hI5, m6, g6, z6⟩ := ins_any m5 ⟨#[103, 126]⟩ (.func (.func 106) #[] #[.pointer (some ⟨C1, 0, none⟩)]) (by kernel_rfl); have l0 : r < C1 := (by first | exact Nat.lt_of_lt_of_le m5lt hl0 | exact Nat.lt_of_lt_of_le (Nat.lt_of_lt_of_le m5lt sz0) hl0); have k0 := hC0.grown_map g6 (Nat.ne_of_gt l0); have b6 : Below w.heap.size w U1 := (bT b5 hb0).grown g6 (bT b5 hb0).size (fun g hg => by injection hg with hg; omega); have sz1 : W5.heap.size ≤ U1.heap.size := (by have := hb0.size; omega); clear hC0 hb0)) | (go_at_call 73; (refine (letters_low U1).mono ?_; rintro e V2 ⟨C2, rfl, hC1, hl1, hb1⟩; have m6k := m6.keep hb1; clear m6; have m6 := m6k; clear m6k; obtain ⟨U2, hI6, m7, g7, z7⟩ := ins_any m6 ⟨#[103, 117]⟩ (.func (.func 106) #[] #[.pointer (some ⟨C2, 0, none⟩)]) (by kernel_rfl); have l1 : r < C2 := (by first | exact Nat.lt_of_lt_of_le m5lt hl1 | exact Nat.lt_of_lt_of_le (Nat.lt_of_lt_of_le m5lt sz1) hl1); have k1 := hC1.grown_map g7 (Nat.ne_of_gt l1); have q0 := (k0.keep hb1).grown_map g7 (Nat.ne_of_gt (l0)); clear k0; have k0 := q0; clear q0; have b7 : Below w.heap.size w U2 := (bT b6 hb1).grown g7 (bT b6 hb1).size (fun g hg => by injection hg with hg; omega); have sz2 : W5.heap.size ≤ U2.heap.size := (by have := hb1.size; omega); clear hC1 hb1)) | (go_at_call 73; (refine (letters_upp U2).mono ?_; rintro e V3 ⟨C3, rfl, hC2, hl2, hb2⟩; have m7k := m7.keep hb2; clear m7; have m7 := m7k; clear m7k; obtain ⟨U3, hI7, m8, g8, z8⟩ := ins_any m7 ⟨#[103, 85]⟩ (.func (.func 106) #[] #[.pointer (some ⟨C3, 0, none⟩)]) (by kernel_rfl); have l2 : r < C3 := (by first | exact Nat.lt_of_lt_of_le m5lt hl2 | exact Nat.lt_of_lt_of_le (Nat.lt_of_lt_of_le m5lt sz2) hl2); have k2 := hC2.grown_map g8 (Nat.ne_of_gt l2); have q0 := (k0.keep hb2).grown_map g8 (Nat.ne_of_gt (l0)); clear k0; have k0 := q0; clear q0; have q1 := (k1.keep hb2).grown_map g8 (Nat.ne_of_gt (l1)); clear k1; have k1 := q1; clear q1; have b8 : Below w.heap.size w U3 := (bT b7 hb2).grown g8 (bT b7 hb2).size (fun g hg => by injection hg with hg; omega); have sz3 : W5.heap.size ≤ U3.heap.size := (by have := hb2.size; omega); clear hC2 hb2)) | fail)
  go_ret
  exact ⟨r, C1, C2, C3, rfl, m8, k0, k1, k2, b8⟩
end Go.Proofs.YtppefcnopkmhbaaGreatDoor

namespace Go.Proofs.YtppefcnopkmhbaaGreatDoor
open Go.RowKit

set_option maxRecDepth 8000
/-- which operator -/
def kn (s : ByteArray) : Nat :=
  if s = ⟨#[100]⟩ then 1 else if s = ⟨#[99]⟩ then 2 else if s = ⟨#[121]⟩ then 3 else if s = ⟨#[62]⟩ then 4 else if s = ⟨#[60]⟩ then 5 else if s = ⟨#[103, 126]⟩ then 6 else if s = ⟨#[103, 117]⟩ then 7 else if s = ⟨#[103, 85]⟩ then 8 else 0
theorem kn_cases (s : ByteArray) : (s = ⟨#[100]⟩ ∧ kn s = 1) ∨ (s = ⟨#[99]⟩ ∧ kn s = 2) ∨ (s = ⟨#[121]⟩ ∧ kn s = 3) ∨ (s = ⟨#[62]⟩ ∧ kn s = 4) ∨ (s = ⟨#[60]⟩ ∧ kn s = 5) ∨ (s = ⟨#[103, 126]⟩ ∧ kn s = 6) ∨ (s = ⟨#[103, 117]⟩ ∧ kn s = 7) ∨ (s = ⟨#[103, 85]⟩ ∧ kn s = 8) ∨
    ((s ≠ ⟨#[100]⟩ ∧ s ≠ ⟨#[99]⟩ ∧ s ≠ ⟨#[121]⟩ ∧ s ≠ ⟨#[62]⟩ ∧ s ≠ ⟨#[60]⟩ ∧ s ≠ ⟨#[103, 126]⟩ ∧ s ≠ ⟨#[103, 117]⟩ ∧ s ≠ ⟨#[103, 85]⟩) ∧ kn s = 0) := by
  unfold kn
  by_cases h1 : s = ⟨#[100]⟩
  · subst h1; exact .inl ⟨rfl, by decide⟩
  by_cases h2 : s = ⟨#[99]⟩
  · subst h2; exact .inr (.inl ⟨rfl, by decide⟩)
  by_cases h3 : s = ⟨#[121]⟩
  · subst h3; exact .inr (.inr (.inl ⟨rfl, by decide⟩))
  by_cases h4 : s = ⟨#[62]⟩
  · subst h4; exact .inr (.inr (.inr (.inl ⟨rfl, by decide⟩)))
  by_cases h5 : s = ⟨#[60]⟩
  · subst h5; exact .inr (.inr (.inr (.inr (.inl ⟨rfl, by decide⟩))))
  by_cases h6 : s = ⟨#[103, 126]⟩
  · subst h6; exact .inr (.inr (.inr (.inr (.inr (.inl ⟨rfl, by decide⟩)))))
  by_cases h7 : s = ⟨#[103, 117]⟩
  · subst h7; exact .inr (.inr (.inr (.inr (.inr (.inr (.inl ⟨rfl, by decide⟩))))))
  by_cases h8 : s = ⟨#[103, 85]⟩
  · subst h8; exact .inr (.inr (.inr (.inr (.inr (.inr (.inr (.inl ⟨rfl, by decide⟩)))))))
  exact .inr (.inr (.inr (.inr (.inr (.inr (.inr (.inr ⟨⟨h1, h2, h3, h4, h5, h6, h7, h8⟩, by rw [if_neg h1, if_neg h2, if_neg h3, if_neg h4, if_neg h5, if_neg h6, if_neg h7, if_neg h8]⟩)))))))
theorem beq_ne {s k : ByteArray} (h : s ≠ k) : (s == k) = false := by
  cases e : (s == k) with
  | true => exact absurd ((MapKept.bytes_beq s k).1 e) h
  | false => rfl
theorem find_no {s : ByteArray} {C1 C2 C3 : Nat} (h : s ≠ ⟨#[100]⟩ ∧ s ≠ ⟨#[99]⟩ ∧ s ≠ ⟨#[121]⟩ ∧ s ≠ ⟨#[62]⟩ ∧ s ≠ ⟨#[60]⟩ ∧ s ≠ ⟨#[103, 126]⟩ ∧ s ≠ ⟨#[103, 117]⟩ ∧ s ≠ ⟨#[103, 85]⟩) : Instr.findNow .string (.string s) (opes C1 C2 C3).toList 0 = some none := by
  obtain ⟨h1, h2, h3, h4, h5, h6, h7, h8⟩ := h
  simp [opes, Instr.findNow, Instr.sameNow, beq_ne h1, beq_ne h2, beq_ne h3, beq_ne h4, beq_ne h5, beq_ne h6, beq_ne h7, beq_ne h8]
/-- what shift tells -/
def shX (l : List UInt8) (o : Option (List Ed)) (a : Nat) : Ef × Int := match o with
  | none => (ef0, 1)
  | some D => (⟨D, fbh l (D.take 1) a, false, false, [], 0, false⟩, 0)
theorem ShQ.ef {l : List UInt8} {o : Option (List Ed)} {a : Nat} {w w' : World} {e : Ending} (h : ShQ l o a w e w') : EfQ (shX l o a).1 (shX l o a).2 w e w' := by
  cases o with
  | none => exact h
  | some D => exact h
/-- letters through a function -/
def leEf (g : Int → Int) (l : List UInt8) (k f t : Nat) (L : Bool) (a : Nat) : Ef := ⟨sw l f t ((sl l f t).map (tw g)), hmc l k f L (a : Int), false, false, [], 0, false⟩
/-- c -/
def cEf (l : List UInt8) (f t : Nat) (L D : Bool) (a b : Nat) : Ef :=
  if L = true then ⟨sw l (sp l a) (en l (sp l b)) [], (sp l a : Int), true, true, tk l f t true D, hwE true (tk l f t true D), true⟩
  else if f = t then ⟨[], (f : Int), false, false, [], 0, true⟩
  else ⟨sw l f t [], (f : Int), true, false, tk l f t false D, hwE false (tk l f t false D), true⟩
/-- an operator, its range known to be right -/
def opX (l : List UInt8) (k o f t : Nat) (L D : Bool) (a b q : Nat) : Ef × Int :=
  if o = 1 then (rEf l f t L D a, 0)
  else if o = 2 then (cEf l f t L D a b, 0)
  else if o = 3 then (yEf l k f t L D (a : Int), 0)
  else if o = 4 then shX l (shf (hdI q) l (b + 1 - a) a 0) a
  else if o = 5 then shX l (shf (hdO q) l (b + 1 - a) a 0) a
  else if o = 6 then (leEf tgB l k f t L a, 0)
  else if o = 7 then (leEf loB l k f t L a, 0)
  else (leEf upB l k f t L a, 0)
/-- Do -/
def doX (l : List UInt8) (at' : Int) (s : ByteArray) (fF tT : Int) (L D : Bool) (q : Int) : Ef × Int :=
  if kn s = 0 ∨ ¬ (0 ≤ at' ∧ at' ≤ (l.length : Int)) ∨ ¬ (1 ≤ q ∧ q ≤ 9999) ∨ (lnO l at'.toNat fF tT L D).2.2 = false then (ef0, 2)
  else if fF = tT ∧ idl (kn s == 1) (kn s == 2) L = true then (ef0, 190)
  else opX l at'.toNat (kn s) fF.toNat tT.toNat L D (lnO l at'.toNat fF tT L D).1.toNat (lnO l at'.toNat fF tT L D).2.1.toNat q.toNat
/-- a range that is right -/
structure RgO (l : List UInt8) (fF tT : Int) (L D : Bool) (x : Int × Int × Bool) (f t a b : Nat) : Prop where
  eF : fF = (f : Int)
  eT : tT = (t : Int)
  eX : x = ((a : Int), (b : Int), true)
  ft : f ≤ t
  tn : t ≤ l.length
  ab : a ≤ b
  bn : b ≤ nl l
  rg : rgB l (f : Int) (t : Int) L D = true
  whO : L = true → wh l (a : Int) (b : Int) = ⟨(f : Int), (t : Int), true, D, 0⟩
theorem isW_yes {l : List UInt8} {a b fF tT : Int} {L D : Bool} (h : isW l a b fF tT L D = true) : wh l a b = ⟨fF, tT, L, D, 0⟩ := by
  unfold isW at h
  simp only [Bool.and_eq_true, beq_iff_eq] at h
  obtain ⟨h1, h2, h3, h4, h5⟩ := h
  cases e : wh l a b with
  | mk F T L' D' E => rw [e] at h1 h2 h3 h4 h5; simp at h1 h2 h3 h4 h5; subst h1 h2 h3 h4 h5; rfl
theorem wh_rgO {l : List UInt8} {a b fF tT : Int} {L D : Bool} (h : wh l a b = ⟨fF, tT, L, D, 0⟩) (hL : L = true) : ∃ f t a' b' : Nat, a = a' ∧ b = b' ∧ RgO l fF tT L D ((a' : Int), (b' : Int), true) f t a' b' := by
  subst hL
  cases hc : (lnB l a && lnB l b && decide (a ≤ b)) with
  | false => rw [wh_no hc] at h; simp [rno] at h
  | true =>
    obtain ⟨a', b', rfl, rfl, h1, h2, h3⟩ := wh_cases hc
    have hw := h
    rw [wh_yes h1 h2 h3] at h
    have hs1 := sp_le (t := l) h1
    have hs2 := sp_le (t := l) h2
    have hs3 := sp_mono h3 h2
    have he1 := en_ge l (sp l b')
    have he2 := en_le hs2
    unfold whY at h
    split at h
    · rename_i hlt
      simp at h
      obtain ⟨rfl, rfl, rfl⟩ := h
      refine ⟨sp l a', en l (sp l b') + 1, a', b', rfl, rfl, ⟨rfl, by omega, rfl, by omega, by omega, h3, h2, rgB_mk (by omega) (by omega) (by omega) (.inl rfl), fun _ => ?_⟩⟩
      rw [hw]; rfl
    · rename_i hlt
      split at h
      · rename_i h0
        simp at h
        obtain ⟨rfl, rfl, rfl⟩ := h
        obtain ⟨i, hi⟩ : ∃ i, a' = i + 1 := ⟨a' - 1, by have : a' ≠ 0 := (fun e => by subst e; rw [sp_zero] at h0; omega); omega⟩
        subst hi
        have hn := sp_next (l := l) h1
        refine ⟨sp l (i + 1) - 1, en l (sp l b'), i + 1, b', rfl, rfl, ⟨by omega, rfl, rfl, by omega, by omega, h3, h2, rgB_mk (by omega) (by omega) (by omega) (.inr ?_), fun _ => ?_⟩⟩
        · unfold leB
          rw [show (((sp l (i + 1) - 1 : Nat) : Int)).toNat = sp l (i + 1) - 1 from rfl, hn.2, Nat.add_sub_cancel, decide_eq_true (by omega), Bool.true_and]
          exact en_edge hn.1
        · rw [hw]; congr 1; omega
      · rename_i h0
        simp at h
        obtain ⟨rfl, rfl, rfl⟩ := h
        refine ⟨sp l a', en l (sp l b'), a', b', rfl, rfl, ⟨rfl, rfl, rfl, by omega, by omega, h3, h2, rgB_mk (by omega) (by omega) (by omega) (.inl rfl), fun _ => ?_⟩⟩
        rw [hw]
theorem lnO_ok {l : List UInt8} {k : Nat} {fF tT : Int} {L D : Bool} (h : (lnO l k fF tT L D).2.2 = true) : ∃ f t a b, RgO l fF tT L D (lnO l k fF tT L D) f t a b := by
  unfold lnO at h ⊢
  split at h
  · cases h
  · rename_i hb
    rw [if_neg hb]
    have h1 : 0 ≤ fF := by omega
    have h2 : fF ≤ tT := by omega
    have h3 : tT ≤ (l.length : Int) := by omega
    obtain ⟨f, rfl⟩ := Int.eq_ofNat_of_zero_le h1
    obtain ⟨t, rfl⟩ := Int.eq_ofNat_of_zero_le (show 0 ≤ tT by omega)
    have hm : (max (f : Int) ((t : Int) - 1)).toNat = max f (t - 1) := by omega
    cases L with
    | false =>
      rw [if_pos rfl]
      refine ⟨f, t, _, _, ⟨rfl, rfl, rfl, by omega, by omega, ?_, ?_, ?_, fun e => by cases e⟩⟩
      · rw [hm]; exact nl_mono l _ _ (by omega)
      · exact nl_take_le _ _
      · unfold rgB; rw [decide_eq_true ⟨by omega, by omega, by omega⟩]; rfl
    | true =>
      rw [if_neg (by simp)] at h ⊢
      generalize ((nl (l.take (f : Int).toNat) : Int) + if D = true then 1 else 0) = aa at h ⊢
      dsimp only at h ⊢
      split at h
      · rename_i hc
        rw [if_pos hc]
        have hc1 := (Bool.and_eq_true_iff.1 hc).1
        obtain ⟨f', t', a', b', e1, e2, hR⟩ := wh_rgO (isW_yes hc1) rfl
        rw [e1, e2]
        exact ⟨f', t', a', b', hR⟩
      · rename_i hc
        rw [if_neg hc]
        dsimp only at h ⊢
        obtain ⟨f', t', a', b', e1, e2, hR⟩ := wh_rgO (isW_yes h) rfl
        rw [e1, e2]
        rw [e1, e2] at h
        rw [h]
        exact ⟨f', t', a', b', hR⟩
end Go.Proofs.YtppefcnopkmhbaaGreatDoor
