/- The text on every way (pure): a history with the text of each change. -/
import Derived.Test.YtaahklapoppgaaaPl00
import Derived.Test.YtaahklapoppgaaaPt01
namespace Go.Proofs.Ytaahklapoppgaaa
open Go.RowKit

set_option maxRecDepth 8000
structure TxI (q : Nat) (b : Int) (D : List Nd) (now : Int) (t : List UInt8) (T : List (List UInt8)) (m : List Int) : Prop where
  r : Right D now
  len : T.length = D.length
  cur : T[now.toNat]? = some t
  tex : Tex (pr D) (fun i => (at' D i).ed) (fun i => T.getD i []) D.length
  tl : ∀ U ∈ T, U.length ≤ q
  one : ∀ i, i < D.length → (at' D i).ed.length ≤ 1
  bw : Bw b (Wk.new D now m)
  ml : m.length = 27
theorem getD_len {T : List (List UInt8)} {q : Nat} (h : ∀ U ∈ T, U.length ≤ q) (i : Nat) : (T.getD i []).length ≤ q := by
  rw [List.getD_eq_getElem?_getD]
  cases e : T[i]? with
  | none => simp
  | some x => exact h x (List.mem_of_getElem? e)
theorem TxI.edg {q : Nat} {b : Int} {D : List Nd} {now : Int} {t : List UInt8} {T : List (List UInt8)} {m : List Int} (h : TxI q b D now t T m) : EdG q D := fun i hi => by
  by_cases h0 : i = 0
  · subst h0
    rw [h.r.beg.2.1]
    exact ⟨by simp [osum], by simp [nsum]⟩
  · have h1 := h.tex i (by omega) hi
    have h2 := h.one i hi
    have l1 := getD_len h.tl (pr D i)
    have l2 := getD_len h.tl i
    dsimp only at h1
    have h3 := app_len h1
    match he : (at' D i).ed, h2 with
    | [], _ => exact ⟨by simp [osum], by simp [nsum]⟩
    | [d], _ =>
      rw [he] at h1 h3
      simp only [app] at h1
      split at h1
      · rename_i hf
        obtain ⟨p, e1, e2, e3⟩ := fitB_iff.1 hf
        have := fit_len e2 e3
        simp only [osum, nsum, List.map_cons, List.map_nil, List.sum_cons, List.sum_nil] at h3 ⊢
        omega
      · cases h1
    | _ :: _ :: _, h2 => simp at h2
theorem TxI.mono {q q' : Nat} {b b' : Int} {D : List Nd} {now : Int} {t : List UInt8} {T : List (List UInt8)} {m : List Int} (h : TxI q b D now t T m) (hq : q ≤ q') (hb : b ≤ b') : TxI q' b' D now t T m :=
  ⟨h.r, h.len, h.cur, h.tex, fun U hU => Nat.le_trans (h.tl U hU) hq, h.one, ⟨h.bw.m.mono hb, fun i h0 hi => ⟨(h.bw.nds i h0 hi).1.mono hb, (h.bw.nds i h0 hi).2.mono hb⟩⟩, h.ml⟩
theorem TxI.tlen {q : Nat} {b : Int} {D : List Nd} {now : Int} {t : List UInt8} {T : List (List UInt8)} {m : List Int} (h : TxI q b D now t T m) : t.length ≤ q := h.tl t (List.mem_of_getElem? h.cur)
/-- behind a crossing -/
theorem TxI.cross {q : Nat} {b b' : Int} {D : List Nd} {now : Int} {t u : List UInt8} {T : List (List UInt8)} {m : List Int} {s : Wk} (h : TxI q b D now t T m) (hl : s.G.length = D.length) (hs : ∀ j, sk (at' s.G j) = sk (at' D j)) (hr : Right s.G s.now) (hb : Bw b' s) (hu : T[s.now.toNat]? = some u) (hm : s.m.length = 27) : TxI q b' s.G s.now u T s.m := by
  have e1 : pr s.G = pr D := funext fun j => pr_sk (hs j)
  have e2 : (fun i => (at' s.G i).ed) = fun i => (at' D i).ed := funext fun j => ed_sk (hs j)
  refine ⟨hr, by rw [hl]; exact h.len, hu, by rw [e1, e2, hl]; exact h.tex, h.tl, fun i hi => ?_, ⟨hb.m, hb.nds⟩, hm⟩
  rw [ed_sk (hs i)]
  exact h.one i (by omega)
theorem nsum_append (A B : List Ed) : nsum (A ++ B) = nsum A + nsum B := by simp [nsum]
theorem nsum_take (D : List Ed) (k : Nat) : nsum (D.take k) ≤ nsum D := by
  have := nsum_append (D.take k) (D.drop k)
  rw [List.take_append_drop] at this
  omega
/-- no text on the way is too long -/
theorem mod_of {t : List UInt8} {E : List Ed} (h : t.length + nsum E ≤ 140737488355328) : Mod t E := fun k U hU => by
  have h1 := app_len hU
  have h2 := nsum_take E k
  omega
theorem nsum_flat {f : Nat → List Ed} {q : Nat} : ∀ {l : List Nat}, (∀ i ∈ l, nsum (f i) ≤ q) → nsum (l.flatMap f) ≤ l.length * q
  | [], _ => by simp [nsum]
  | x :: l, h => by
    rw [List.flatMap_cons, nsum_append, List.length_cons, Nat.add_mul]
    have h1 := h x (by simp)
    have h2 := nsum_flat (l := l) (fun i hi => h i (by simp [hi]))
    omega
theorem flat_len {f : Nat → List Ed} : ∀ {l : List Nat}, (∀ i ∈ l, (f i).length ≤ 1) → (l.flatMap f).length ≤ l.length
  | [], _ => by simp
  | x :: l, h => by
    rw [List.flatMap_cons, List.length_append, List.length_cons]
    have h1 := h x (by simp)
    have h2 := flat_len (l := l) (fun i hi => h i (by simp [hi]))
    omega
theorem foldU_E : ∀ (U : List Nat) (s : Wk), (U.foldl Wk.up s).E = s.E ++ U.flatMap fun j => inv (at' s.G j).ed
  | [], s => by simp
  | x :: U, s => by
    rw [List.foldl_cons, foldU_E U (s.up x), List.flatMap_cons]
    have e : (fun j => inv (at' (s.up x).G j).ed) = fun j => inv (at' s.G j).ed := funext fun j => by rw [ed_sk (s.up_sk x j)]
    rw [e]
    show s.E ++ inv (at' s.G x).ed ++ _ = _
    rw [List.append_assoc]
theorem foldD_E : ∀ (U : List Nat) (s : Wk), (U.foldl Wk.down s).E = s.E ++ U.flatMap fun j => (at' s.G j).ed
  | [], s => by simp
  | x :: U, s => by
    rw [List.foldl_cons, foldD_E U (s.down x), List.flatMap_cons]
    have e : (fun j => (at' (s.down x).G j).ed) = fun j => (at' s.G j).ed := funext fun j => by rw [ed_sk (s.down_sk x j)]
    rw [e]
    show s.E ++ (at' s.G x).ed ++ _ = _
    rw [List.append_assoc]
theorem go_E (s : Wk) (U D : List Nat) : (s.go U D).E = s.E ++ ((U.flatMap fun j => inv (at' s.G j).ed) ++ D.flatMap fun j => (at' s.G j).ed) := by
  unfold Wk.go
  rw [foldD_E, foldU_E, List.append_assoc]
  have e : (fun j => (at' (U.foldl Wk.up s).G j).ed) = fun j => (at' s.G j).ed := funext fun j => by rw [ed_sk (foldU_sk U s j)]
  rw [e]
theorem getD_some {T : List (List UInt8)} {i : Nat} {t : List UInt8} (h : T[i]? = some t) : T.getD i [] = t := by rw [List.getD_eq_getElem?_getD, h]; rfl
theorem some_getD {T : List (List UInt8)} {i : Nat} (h : i < T.length) : T[i]? = some (T.getD i []) := by rw [List.getD_eq_getElem?_getD, List.getElem?_eq_getElem h]; rfl
/-- Undo -/
theorem TxI.undo {q : Nat} {b : Int} {D : List Nd} {now : Int} {t : List UInt8} {T : List (List UInt8)} {m : List Int} (h : TxI q b D now t T m) (h0 : 0 ≤ b) (hB : b + 8194 * (q : Int) ≤ 4611686018427387904) (hz : undE D now m = 0) (s : Wk) (hs : s = (Wk.new D now m).up now.toNat) :
    ∃ u, app t s.E = some u ∧ T[s.now.toNat]? = some u ∧ 0 ≤ s.now ∧ s.now < (T.length : Int) ∧ (nsum s.E ≤ 8194 * q ∧ s.E.length ≤ 8194) ∧ TxI q (b + 8194 * (q : Int)) s.G s.now u T s.m := by
  obtain ⟨hr, -, hn⟩ := undE_zero hz
  obtain ⟨i, rfl⟩ : ∃ i : Nat, now = (i : Int) := ⟨now.toNat, by have := hr.sz.2; omega⟩
  rw [Int.toNat_natCast] at hs
  have hi : i < D.length := by have := hr.sz.2; omega
  have he := hr.edb h.edg (by omega) hi
  have hb := h.bw.up (by omega) hi he h0 (by omega)
  have hr1 := right_up (s := Wk.new D (i : Int) m) hr rfl (by omega) h.bw.m.mok hb.m.mok
  obtain ⟨hp, hpe⟩ := hr.par_lt (by omega) hi
  have hc := h.cur
  rw [Int.toNat_natCast] at hc
  have hE : s.E = inv (at' D i).ed := by rw [hs]; exact List.nil_append _
  have hnow : s.now = ((pr D i : Nat) : Int) := by rw [hs]; exact hpe
  have ha : app t (inv (at' D i).ed) = some (T.getD (pr D i) []) := by
    have := h.tex i (by omega) hi
    have e := getD_some hc
    dsimp only at this
    rw [e] at this
    exact app_back this
  rw [← hs] at hb hr1
  have hk : (Wk.new D (i : Int) m).G = D := rfl
  have hu : T[s.now.toNat]? = some (T.getD (pr D i) []) := by rw [hnow, Int.toNat_natCast]; exact some_getD (by rw [h.len]; omega)
  refine ⟨_, by rw [hE]; exact ha, hu, by omega, by rw [h.len, hnow]; omega, ⟨by rw [hE, nsum_inv]; have := (h.edg i hi).1; omega, by rw [hE, inv_length]; have := h.one i hi; omega⟩, ?_⟩
  refine (h.cross (s := s) (by rw [hs]; exact Wk.up_len _ _) (fun j => by rw [hs]; exact Wk.up_sk _ _ _) hr1 hb hu (by rw [hs]; exact Wk.up_mlen _ _)).mono (Nat.le_refl _) (by omega)
/-- Redo -/
theorem TxI.redo {q : Nat} {b : Int} {D : List Nd} {now : Int} {t : List UInt8} {T : List (List UInt8)} {m : List Int} (h : TxI q b D now t T m) (h0 : 0 ≤ b) (hB : b + 8194 * (q : Int) ≤ 4611686018427387904) (hz : redE D now m = 0) (s : Wk) (hs : s = (Wk.new D now m).down (at' D now.toNat).nxt.toNat) :
    ∃ u, app t s.E = some u ∧ T[s.now.toNat]? = some u ∧ 0 ≤ s.now ∧ s.now < (T.length : Int) ∧ (nsum s.E ≤ 8194 * q ∧ s.E.length ≤ 8194) ∧ TxI q (b + 8194 * (q : Int)) s.G s.now u T s.m := by
  obtain ⟨hr, -, hn⟩ := redE_zero hz
  obtain ⟨p, rfl⟩ : ∃ p : Nat, now = (p : Int) := ⟨now.toNat, by have := hr.sz.2; omega⟩
  rw [Int.toNat_natCast] at hs hn
  have hpl : p < D.length := by have := hr.sz.2; omega
  obtain ⟨k, hk, hkl, hkp⟩ : ∃ k : Nat, (at' D p).nxt = (k : Int) ∧ k < D.length ∧ (at' D k).par = (p : Int) := by
    rcases hr.lds p _ (at'_some hpl) with h | ⟨k', h1, n, h2, h3⟩
    · exact absurd h hn
    · exact ⟨k', h1, (List.getElem?_eq_some_iff.1 h2).1, by rw [at'_eq h2]; exact h3⟩
  rw [hk] at hn hs
  rw [Int.toNat_natCast] at hs
  have hk0 : 0 < k := by omega
  have hpr : pr D k = p := by unfold pr; rw [hkp]; rfl
  have he := hr.edb h.edg hk0 hkl
  have hb := h.bw.down hk0 hkl he h0 (by omega)
  have hr1 := right_down (s := Wk.new D (p : Int) m) hr hk0 hkl (by show (p : Int) = ((pr D k : Nat) : Int); rw [hpr]) h.bw.m.mok hb.m.mok
  have hc := h.cur
  rw [Int.toNat_natCast] at hc
  have hE : s.E = (at' D k).ed := by rw [hs]; exact List.nil_append _
  have hnow : s.now = (k : Int) := by rw [hs]; rfl
  have ha : app t (at' D k).ed = some (T.getD k []) := by
    have := h.tex k hk0 hkl
    dsimp only at this
    rw [hpr, getD_some hc] at this
    exact this
  rw [← hs] at hb hr1
  have hu : T[s.now.toNat]? = some (T.getD k []) := by rw [hnow, Int.toNat_natCast]; exact some_getD (by rw [h.len]; omega)
  refine ⟨_, by rw [hE]; exact ha, hu, by omega, by rw [h.len, hnow]; omega, ⟨by rw [hE]; have := (h.edg k hkl).2; omega, by rw [hE]; have := h.one k hkl; omega⟩, ?_⟩
  refine (h.cross (s := s) (by rw [hs]; exact Wk.down_len _ _) (fun j => by rw [hs]; exact Wk.down_sk _ _ _) hr1 hb hu (by rw [hs]; exact Wk.down_mlen _ _)).mono (Nat.le_refl _) (by omega)
theorem foldU_mlen : ∀ (U : List Nat) (s : Wk), s.m.length = 27 → (U.foldl Wk.up s).m.length = 27
  | [], _, h => h
  | x :: U, s, _ => foldU_mlen U (s.up x) (s.up_mlen x)
theorem foldD_mlen : ∀ (U : List Nat) (s : Wk), s.m.length = 27 → (U.foldl Wk.down s).m.length = 27
  | [], _, h => h
  | x :: U, s, _ => foldD_mlen U (s.down x) (s.down_mlen x)
/-- Go -/
theorem TxI.go {q : Nat} {b : Int} {D : List Nd} {now : Int} {t : List UInt8} {T : List (List UInt8)} {m : List Int} {j : Nat} (h : TxI q b D now t T m) (h0 : 0 ≤ b) (hB : b + 8194 * (q : Int) ≤ 4611686018427387904) (hj : j < T.length) :
    goE D now (j : Int) m = 0 ∧ ∀ s : Wk, s = (Wk.new D now m).go (pathU D now.toNat ((j : Int)).toNat) (pathD D now.toNat ((j : Int)).toNat) → ∃ u, app t s.E = some u ∧ T[s.now.toNat]? = some u ∧ 0 ≤ s.now ∧ s.now < (T.length : Int) ∧ (nsum s.E ≤ 8194 * q ∧ s.E.length ≤ 8194) ∧ TxI q (b + 8194 * (q : Int)) s.G s.now u T s.m := by
  have hr := h.r
  have hjl : j < D.length := by have := h.len; omega
  refine ⟨?_, fun s hs => ?_⟩
  · unfold goE
    rw [ti_t hr, ti_t (show MOk m from h.bw.m.mok), ti_f (by omega), ti_f (by omega)]
  · rw [Int.toNat_natCast] at hs
    obtain ⟨i, rfl⟩ : ∃ i : Nat, now = (i : Int) := ⟨now.toNat, by have := hr.sz.2; omega⟩
    have hi : i < D.length := by have := hr.sz.2; omega
    obtain ⟨g1, g2, g3⟩ := go_right hr hjl h.edg h.bw h0 hB
    rw [← hs] at g1 g2 g3
    rw [Int.toNat_natCast] at hs
    have hc := h.cur
    rw [Int.toNat_natCast] at hc
    have hE : s.E = (pathU D i j).flatMap (fun n => inv (at' D n).ed) ++ (pathD D i j).flatMap fun n => (at' D n).ed := by rw [hs, go_E]; exact List.nil_append _
    have ha : app t s.E = some (T.getD j []) := by
      rw [hE]
      have := tex_path hr.low h.tex hi hjl
      rw [getD_some hc] at this
      exact this
    have hu : T[s.now.toNat]? = some (T.getD j []) := by rw [g2, Int.toNat_natCast]; exact some_getD hj
    obtain ⟨p1, p2, l1, l2, -⟩ := path_in (i := i) (j := j) hr.low hi hjl
    have hsz := hr.sz.1
    refine ⟨_, ha, hu, by omega, by rw [g2]; omega, ⟨?_, ?_⟩, ?_⟩
    · rw [hE, nsum_append]
      have a1 := nsum_flat (f := fun n => inv (at' D n).ed) (q := q) (l := pathU D i j) (fun x hx => by rw [nsum_inv]; exact (h.edg x (p1 x hx).2).1)
      have a2 := nsum_flat (f := fun n => (at' D n).ed) (q := q) (l := pathD D i j) (fun x hx => (h.edg x (p2 x hx).2).2)
      have a3 : (pathU D i j).length * q ≤ 4097 * q := Nat.mul_le_mul_right _ (by omega)
      have a4 : (pathD D i j).length * q ≤ 4097 * q := Nat.mul_le_mul_right _ (by omega)
      omega
    · rw [hE, List.length_append]
      have a1 := flat_len (f := fun n => inv (at' D n).ed) (l := pathU D i j) (fun x hx => by rw [inv_length]; exact h.one x (p1 x hx).2)
      have a2 := flat_len (f := fun n => (at' D n).ed) (l := pathD D i j) (fun x hx => h.one x (p2 x hx).2)
      omega
    · refine h.cross (s := s) (by rw [hs]; unfold Wk.go; rw [foldD_len, foldU_len]; rfl) (fun k => by rw [hs]; unfold Wk.go; rw [foldD_sk, foldU_sk]; rfl) g1 g3 hu (by rw [hs]; exact foldD_mlen _ _ (foldU_mlen _ _ h.ml))
/-- Add -/
theorem TxI.add {q q' : Nat} {b : Int} {D : List Nd} {now : Int} {t : List UInt8} {T : List (List UInt8)} {m : List Int} {d : Ed} (h : TxI q b D now t T m) (hl : D.length ≤ 4096) (hf : fitB t d = true) (hne : d.O ≠ d.N) (hq : q ≤ q') (hq2 : q + d.N.length ≤ q') (hq9 : q' ≤ 2147483647) :
    addE D now ⟨now, 0, [d], d.a, m, m⟩ = 0 ∧ app t [d] = some (stp t d) ∧ TxI q' b (addG D now ⟨now, 0, [d], d.a, m, m⟩) (D.length : Int) (stp t d) (T ++ [stp t d]) m := by
  obtain ⟨p, e1, e2, e3⟩ := fitB_iff.1 hf
  have ht := h.tlen
  have hr := h.r
  have hp : 0 ≤ d.a ∧ d.a ≤ 2147483647 := by omega
  have hs : Sound ⟨now, 0, [d], d.a, m, m⟩ := ⟨hp, by simp, fun x hx => by simp at hx; subst hx; exact ⟨hp, hne⟩, h.bw.m.mok, h.bw.m.mok⟩
  have ha : app t [d] = some (stp t d) := by simp only [app]; rw [if_pos hf]
  have hsl := stp_len hf
  obtain ⟨i, rfl⟩ : ∃ i : Nat, now = (i : Int) := ⟨now.toNat, by have := hr.sz.2; omega⟩
  have hi : i < D.length := by have := hr.sz.2; omega
  have hc := h.cur
  rw [Int.toNat_natCast] at hc
  have hTl := h.len
  refine ⟨?_, ha, ?_⟩
  · unfold addE; rw [ti_t hr, ti_t hs, ti_f (by omega)]
  · have hsta : ∀ j, j < D.length → sk (at' (addG D (i : Int) ⟨(i : Int), 0, [d], d.a, m, m⟩) j) = sk (at' D j) := sta_add.sk
    have hlast : at' (addG D (i : Int) ⟨(i : Int), 0, [d], d.a, m, m⟩) D.length = ⟨(i : Int), 0, [d], d.a, m, m⟩ := by unfold addG; rw [at'_app, if_neg (by simp), if_pos (by simp)]
    have hal : (addG D (i : Int) ⟨(i : Int), 0, [d], d.a, m, m⟩).length = D.length + 1 := by unfold addG; simp
    have hmk : ∀ j, j < D.length → (at' (addG D (i : Int) ⟨(i : Int), 0, [d], d.a, m, m⟩) j).was = (at' D j).was ∧ (at' (addG D (i : Int) ⟨(i : Int), 0, [d], d.a, m, m⟩) j).made = (at' D j).made := fun j hj => by
      unfold addG
      rw [at'_app, if_pos (by rw [List.length_set]; exact hj), getD_set]
      split
      · rename_i e; rw [← e.1]; exact ⟨rfl, rfl⟩
      · exact ⟨rfl, rfl⟩
    have hrA := right_add hr hs rfl rfl hl
    generalize addG D (i : Int) ⟨(i : Int), 0, [d], d.a, m, m⟩ = A at *
    have hgT : ∀ j, j < D.length → (T ++ [stp t d]).getD j [] = T.getD j [] := fun j hj => by rw [List.getD_eq_getElem?_getD, List.getElem?_append_left (by omega), List.getD_eq_getElem?_getD]
    have hgL : (T ++ [stp t d]).getD D.length [] = stp t d := by rw [List.getD_eq_getElem?_getD, List.getElem?_append_right (by omega), hTl]; simp
    refine ⟨hrA, by simp [hal, hTl], by rw [Int.toNat_natCast, List.getElem?_append_right (by omega), hTl]; simp, fun j hj0 hj => ?_, fun U hU => ?_, fun j hj => ?_, ⟨h.bw.m, fun j hj0 hj => ?_⟩, h.ml⟩
    · rw [hal] at hj
      dsimp only
      by_cases hjl : j < D.length
      · have hpj := (hr.par_lt hj0 hjl).1
        rw [pr_sk (hsta j hjl), ed_sk (hsta j hjl), hgT _ (by omega), hgT _ hjl]
        exact h.tex j hj0 hjl
      · obtain rfl : j = D.length := by omega
        have e : pr A D.length = i := by unfold pr; rw [hlast]; rfl
        rw [e, hlast, hgL, hgT _ hi, getD_some hc]
        exact ha
    · rcases List.mem_append.1 hU with hU | hU
      · have := h.tl U hU; omega
      · simp at hU; subst hU; omega
    · rw [hal] at hj
      by_cases hjl : j < D.length
      · rw [ed_sk (hsta j hjl)]; exact h.one j hjl
      · obtain rfl : j = D.length := by omega
        rw [hlast]; simp
    · have hj' : j < D.length + 1 := by rw [← hal]; exact hj
      show Bd b (at' A j).was ∧ Bd b (at' A j).made
      by_cases hjl : j < D.length
      · rw [(hmk j hjl).1, (hmk j hjl).2]; exact h.bw.nds j hj0 hjl
      · obtain rfl : j = D.length := by omega
        rw [hlast]; exact ⟨h.bw.m, h.bw.m⟩
/-- the beginning -/
theorem TxI.new {q : Nat} {t : List UInt8} (h : t.length ≤ q) : TxI q 0 [zn] 0 t [t] zm := by
  refine ⟨right_new, rfl, rfl, fun i h0 hi => by simp at hi; omega, fun U hU => by simp at hU; subst hU; exact h, fun i hi => by simp at hi; subst hi; simp [at', zn], ⟨fun x hx => by simp [Wk.new, zm] at hx; omega, fun i h0 hi => by simp [Wk.new] at hi; omega⟩, rfl⟩
end Go.Proofs.Ytaahklapoppgaaa
