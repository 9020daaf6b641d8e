/- The walk of quoinlaw02.ShadeWalks, up to its ranges. -/
import Derived.Test.YtpifjghhlcjedaaWkit
import Derived.Test.YtpifjghhlcjedaaSrows
import Derived.Test.YtpifjghhlcjedaaRangeN
import Derived.Test.YtpifjghhlcjedaaAll
import Derived.Test.YtpifjghhlcjedaaAlive
import Derived.RangeFuncBox
import Derived.Laws.EntriesVeiled
import Derived.Deep.CutRange
namespace Go.Proofs.Ytpifjghhlcjedaa
open Go.RowKit Go.Shelf
attribute [local go_sem] Oper.semAt_some

theorem results4 {tmps : Array Value} {w : World} {b : Nat} {x : Bool} (h : tmps.getD 4 undef = .pointer (some ⟨b, 0, none⟩)) (hc : Rk.Box w b (.bool x) 4) : (results Try.f4 tmps).run Try.prog w = .ok (.bool x) w := by
  obtain ⟨c, f⟩ := hc.cell
  have h' : tmps[4]?.getD undef = .pointer (some ⟨b, 0, none⟩) := by simpa using h
  simp [results, Try.results4, go_sem, h', c]

theorem cells_one (L : List Pc) : ∀ u ∈ cells L, u.oneCell' = true := by
  intro u hu
  obtain ⟨p, _, hp⟩ := List.mem_flatMap.1 hu
  simp [Pc.cs] at hp
  rcases hp with rfl | rfl | rfl | rfl <;> rfl
theorem rdb_srv {w : World} {ao : Option Addr} {n c : Nat} {L : List Pc} (h : Rdb w (.slice ao n c) L) (hn : ao = none → c = 0) : n = L.length ∧ Rk.Srv w (.slice ao n c) n (cells L) := by
  obtain ⟨ao', n', c', e, h2, h3, h4⟩ := h
  simp at e
  obtain ⟨rfl, rfl, rfl⟩ := e
  refine ⟨h2, ?_⟩
  cases ao with
  | none =>
    have := hn rfl
    subst this
    have : L = [] := List.eq_nil_of_length_eq_zero (by omega)
    subst this
    exact .inl ⟨by rw [h2]; rfl, h2, rfl⟩
  | some ad =>
    refine .inr ⟨ad, c, rfl, fun j t hj => ?_⟩
    rcases h4 with h4 | ⟨b, off, e, hr⟩
    · subst h4; simp [cells] at hj
    · simp at e
      subst e
      have hlt := (List.getElem?_eq_some_iff.1 hj).1
      rw [cells_length] at hlt
      have hadd : (⟨b, off, none⟩ : Addr).add j = ⟨b, off + j, none⟩ := by unfold Addr.add; split <;> simp_all
      rw [hadd]
      have hk : j / 4 < L.length := by omega
      have hq : L[j / 4]? = some L[j / 4] := List.getElem?_eq_getElem hk
      obtain ⟨h0, h1, h2, h3⟩ := hr (j / 4) _ hq
      have h5 : j % 4 = 0 ∨ j % 4 = 1 ∨ j % 4 = 2 ∨ j % 4 = 3 := by omega
      rcases h5 with e | e | e | e
      · have := cells_at hq 0 (by omega)
        rw [show j / 4 * 4 + 0 = j from by omega, hj] at this
        simp [Pc.cs] at this
        rw [this, ← h0]; congr 2; omega
      · have := cells_at hq 1 (by omega)
        rw [show j / 4 * 4 + 1 = j from by omega, hj] at this
        simp [Pc.cs] at this
        rw [this, ← h1]; congr 2; omega
      · have := cells_at hq 2 (by omega)
        rw [show j / 4 * 4 + 2 = j from by omega, hj] at this
        simp [Pc.cs] at this
        rw [this, ← h2]; congr 2; omega
      · have := cells_at hq 3 (by omega)
        rw [show j / 4 * 4 + 3 = j from by omega, hj] at this
        simp [Pc.cs] at this
        rw [this, ← h3]; congr 2; omega
theorem rcells_one (L : List Rw) : ∀ u ∈ rcells L, u.oneCell' = true := by
  intro u hu
  obtain ⟨p, _, hp⟩ := List.mem_flatMap.1 hu
  exact row_one p u hp
/-- the first rows of an owned list of pieces can be read -/
theorem own_rdb_part {w : World} {base g c n m : Nat} {L M : List Pc} (h : w.ownsRow base 32 4 (.slice (some ⟨g, 0, none⟩) m c) m (cells (L ++ M))) (hL : L.length = n) (hm : n ≤ m) (hc : m ≤ c) : Rdb w (.slice (some ⟨g, 0, none⟩) n c) L := by
  refine ⟨_, _, _, rfl, hL.symm, by omega, .inr ⟨g, 0, rfl, fun j p hj => ?_⟩⟩
  have hlt := (List.getElem?_eq_some_iff.1 hj).1
  have hj' : (L ++ M)[j]? = some p := by rw [List.getElem?_append_left hlt]; exact hj
  have cc := fun i (hi : i < 4) => (h.cellAt (j * 4 + i) (by omega)).trans (cells_at hj' i hi)
  rw [Nat.zero_add]
  exact ⟨by simpa [Pc.cs] using cc 0 (by omega), by simpa [Pc.cs] using cc 1 (by omega), by simpa [Pc.cs] using cc 2 (by omega), by simpa [Pc.cs] using cc 3 (by omega)⟩

/-- what the law keeps beside its rows: four variables of one cell, and the tree -/
structure Kp (w W : World) (b7 b8 : Nat) (stop : Int) (res : Bool) (a : Option Addr) (T : Tr) : Prop where
  b3 : Rk.Box W w.heap.size (.int .i64 stop) 3
  b4 : Rk.Box W (w.heap.size + 1) (.bool res) 4
  b7 : Rk.Box W b7 (.pointer a) 26
  b8 : Rk.Box W b8 (.int .i64 (T.size : Nat)) 3
  tree : At W T a
  bel : Below w.heap.size w W
theorem Kp.below {w W W' : World} {b7 b8 : Nat} {stop : Int} {res : Bool} {a : Option Addr} {T : Tr} (h : Kp w W b7 b8 stop res a T) (hb : Below W.heap.size W W') : Kp w W' b7 b8 stop res a T :=
  ⟨h.b3.keep hb, h.b4.keep hb, h.b7.keep hb, h.b8.keep hb, h.tree.keep hb, Rk.bT h.bel hb⟩
theorem Kp.grown {w W W' : World} {b7 b8 : Nat} {stop : Int} {res : Bool} {a : Option Addr} {T : Tr} {base e size m : Nat} {v : Value} {xs : List Value} (h : Kp w W b7 b8 stop res a T) (hr : W.ownsRow base e size v m xs) (hg : W.grownBy W' v.ownBlock) (hb : w.heap.size ≤ base)
    (he : e ≠ 3 ∧ e ≠ 4 ∧ e ≠ 26 ∧ e ≠ 137) : Kp w W' b7 b8 stop res a T :=
  ⟨h.b3.grown hr he.1 hg, h.b4.grown hr he.2.1 hg, h.b7.grown hr he.2.2.1 hg, h.b8.grown hr he.1 hg, (Nods.grown hg (own_tag hr he.2.2.2)).at h.tree, h.bel.grown hg h.bel.size (fun k hk => Nat.le_trans hb (hr.lt k hk).1)⟩

theorem kr_put {w w1 W : World} {R : List Rk.Rr} {b7 b8 : Nat} {stop : Int} {res : Bool} {a : Option Addr} {T : Tr} {i e size g m c : Nat} {xs : List Value} (h : Kp w W b7 b8 stop res a T ∧ Rk.Rrs w1 W R) (hi : R[i]? = some ⟨e, size, .slice (some ⟨g, 0, none⟩) m c, m, xs⟩) (hb : w.heap.size ≤ w1.heap.size) (he : e ≠ 3 ∧ e ≠ 4 ∧ e ≠ 26 ∧ e ≠ 137) (j : Nat) (u : Value) :
    Kp w (W.setCell ⟨g, j, none⟩ u) b7 b8 stop res a T ∧ Rk.Rrs w1 (W.setCell ⟨g, j, none⟩ u) (R.set i ⟨e, size, .slice (some ⟨g, 0, none⟩) m c, m, xs.set j u⟩) := by
  have ho := h.2.own i _ hi
  exact ⟨h.1.grown ho (ho.stored j u).2 hb he, h.2.store hi j u⟩
theorem set_ge {xs : List Value} {j q : Nat} {u : Value} (h : j < q) : (xs.set j u)[q]? = xs[q]? := List.getElem?_set_ne (by omega)

theorem Rk.Box.cellset {W : World} {b t : Nat} {v : Value} (h : Rk.Box W b v t) (u : Value) : Rk.Box (W.setCell ⟨b, 0, none⟩ u) b u t := by
  unfold Rk.Box at h ⊢
  simp [World.setCell, Array.getElem?_modify, h]
/-- between two rounds: all that was there ahead of the counter stands, and the counter -/
structure RI (V : World) (q : Int) (W : World) : Prop where
  bel : Below V.heap.size V W
  ct : Rk.Box W V.heap.size (.int .i64 q) 3
theorem RI.stab {V A B : World} {q : Int} {hi : Nat} (h : RI V q A) (hk : Kept (V.heap.size + 1) hi A B) : RI V q B := by
  have hs := h.ct.lt
  exact ⟨h.bel.trans ⟨hk.os, hk.tape, hk.output, hk.size, fun k hk' => hk.block k (by omega) (.inl (by omega))⟩, (hk.block _ hs (.inl (by omega))).trans h.ct⟩

theorem RI.step {V W : World} {q : Int} (h : RI V q W) (u : Int) (hi : Nat) : RI V u (W.setCell ⟨V.heap.size, 0, none⟩ (.int .i64 u)) ∧ Rnd (fun k => k < V.heap.size) (V.heap.size + 1) hi W (W.setCell ⟨V.heap.size, 0, none⟩ (.int .i64 u)) := by
  refine ⟨⟨h.bel.setCell (Nat.le_refl _) _, h.ct.cellset _⟩, Rnd.setCell _ _ _ (by simp) (.inl (by simp))⟩

theorem RI.below {V A B : World} {q : Int} (h : RI V q A) (hb : Below A.heap.size A B) : RI V q B :=
  ⟨h.bel.trans (hb.mono h.bel.size), h.ct.keep hb⟩
theorem cells4 {W : World} {b t : Nat} {x y z u : Value} (h : W.heap[b]? = some (.cells #[x, y, z, u] t (0, 0))) : W.cell? ⟨b, 0, none⟩ = some x ∧ W.cell? ⟨b, 1, none⟩ = some y ∧ W.cell? ⟨b, 2, none⟩ = some z ∧ W.cell? ⟨b, 3, none⟩ = some u := by
  simp [World.cell?, h]
theorem pre_at {α : Type} {pre xs : List α} {x : α} (h : pre ++ [x] <+: xs) : xs[pre.length]? = some x := by
  obtain ⟨r, rfl⟩ := h
  simp

theorem fold2 (t : Array Value) (p q : Nat) (x y : Value) : (((#[p, q] : Array Tmp).zip #[x, y]).foldl (fun t (z : Tmp × Value) => t.setIfInBounds z.1 z.2) t) = (t.setIfInBounds p x).setIfInBounds q y := by
  simp [Array.zip]

/-- the row that is appended -/
def rowM : Rw := ⟨⟨0, 0, 0, 0⟩, false, false, false, -2, 0, 0⟩
/-- the two pieces behind the list -/
def marks2 : List Pc := [⟨0, 0, 0, 77⟩, ⟨0, 0, 0, 78⟩]

set_option maxRecDepth 100000 in
set_option maxHeartbeats 4000000 in
theorem walks_any (ao : Option Addr) (n c : Nat) (L : List Pc) (stop : Int) (w : World) (hn0 : ao = none → c = 0) (hr : Hid (Rdb w (.slice ao n c) L)) :
    Calls Try.prog 4 #[.slice ao n c, .int .i64 stop] w fun e w' => e = .returned (.bool true) ∧ Below w.heap.size w w' := by
  obtain ⟨i32, hi32, hz32, hs32, hb32⟩ := info_parts info32
  obtain ⟨i53, hi53, hz53, hs53, hb53⟩ := info_parts info72
  refine (callsIn_wide (n := 9)).1 ?_
  refine callsIn_of_wp_marks Try.func4 rfl trivial ?_ rfl
  simp only [Try.ntmps4, List.size_toArray, List.length_cons, List.length_nil, Nat.reduceAdd, Nat.reduceSub, Array.replicate_succ, Array.replicate_zero, List.push_toArray, List.append_toArray, List.nil_append, List.cons_append]
  refine wpIn_wide.2 ?_
  go_wp2_with fail
  refine (alive_any _).mono ?_
  rintro e w1 ⟨rfl, hb1⟩
  have B3 : Hid (Rk.Box w1 w.heap.size (.int .i64 stop) 3) := ((Rk.Box.new w (.int .i64 stop) 3).keep (bAlloc (Below.refl _ _) _)).keep hb1
  have B4 : Hid (Rk.Box w1 (w.heap.size + 1) (.bool false) 4) := by
    have := (Rk.Box.new (w.alloc (.cells #[.int .i64 stop] 3)) (.bool false) 4).keep hb1
    unfold Hid; simpa using this
  have W1 : Hid (Below w.heap.size w w1) := Rk.bT (bAlloc (bAlloc (Below.refl _ _) _) _) hb1
  clear hb1
  by_cases hbig : (n : Int) > 5000
  · have c4 := B4.out.cell
    obtain ⟨c4, f4⟩ := c4
    go_wp2
    refine ⟨_, results4 rfl (B4.out.cellset _), rfl, W1.out.setCell (by simp) _⟩
  obtain ⟨hnL, hsv⟩ := rdb_srv (hr.out.keep W1.out) hn0
  have HNL : Hid (L.length = n) := hnL.symm
  have SV : Hid (Rk.Srv w1 (.slice ao n c) n (cells L)) := hsv
  clear hnL hsv
  go_wp2_with (at_builtin; refine Rk.append_srv rfl (.tmp 29) (.tmp 30) 33 rfl w1.heap.size 32 i32 (.agg #[.int .i64 0, .int .i64 0, .int .i64 0, .int .i64 0]) 4 32 Try.underlying33 hi32 hz32 hs32 hb32 rfl (by decide) (.slice (some ⟨w1.heap.size, 0, none⟩) 0 0) 0 [] rfl (World.ownsRow_made w1 #[] 0 (Nat.le_refl _) (by decide) rfl) (.slice ao n c) n (cells L) rfl (SV.out.keep (bAlloc (Below.refl _ _) _)) (by rw [cells_length, HNL.out]) (cells_one _) (by unfold maxLen; omega) (by omega) (by simp) ?_)
  intro v2 w2 hown2 hgrow2 hfr2
  clear hfr2
  have HB2 : Hid (Below w1.heap.size w1 w2) := (bAlloc (Below.refl _ _) _).grown hgrow2 (by simp) (fun k hk => by simp [Value.ownBlock] at hk; omega)
  have HO2 : Hid (w2.ownsRow w1.heap.size 32 4 v2 n (cells L)) := by unfold Hid; simpa using hown2
  obtain ⟨a2, c2, hv2⟩ := own_shape HO2.out
  subst hv2
  clear hown2 hgrow2
  go_wp2_with (at_builtin; refine Rk.append_srv rfl (.tmp 31) (.tmp 34) 33 rfl w1.heap.size 32 i32 (.agg #[.int .i64 0, .int .i64 0, .int .i64 0, .int .i64 0]) 4 32 Try.underlying33 hi32 hz32 hs32 hb32 rfl (by decide) (.slice a2 n c2) n (cells L) rfl (HO2.out.alloc _) (.slice (some ⟨w2.heap.size, 0, none⟩) 2 2) 2 (cells marks2) rfl (.inr ⟨⟨w2.heap.size, 0, none⟩, 2, rfl, fun j t hj => lit_cells w2 _ 32 j t hj⟩) rfl (cells_one _) (by unfold maxLen; omega) (by omega) (by have := HB2.out.size; simp; omega) ?_)
  intro v3 w3 hown3 hgrow3 hfr3
  clear hfr3
  have HB3 : Hid (Below w1.heap.size w1 w3) := (bAlloc HB2.out _).grown hgrow3 (by have := HB2.out.size; simp; omega) (fun k hk => (HO2.out.lt k hk).1)
  have HO3 : Hid (w3.ownsRow w1.heap.size 32 4 v3 (n + 2) (cells (L ++ marks2))) := by unfold Hid; rw [cells_append]; exact hown3
  clear hown3 hgrow3 HO2 HB2
  have hrow : ∃ gO cO, v3 = .slice (some ⟨gO, 0, none⟩) (n + 2) cO ∧ n + 2 ≤ cO := by
    rcases HO3.out.2 with ⟨_, h0⟩ | ⟨g, cap, cur, e, _, _, h1, _⟩
    · omega
    · exact ⟨g, cap, e, h1⟩
  obtain ⟨gO, cO, hv3, hcO⟩ := hrow
  subst hv3
  have RD : Hid (Rdb w3 (.slice (some ⟨gO, 0, none⟩) n cO) L) := own_rdb_part HO3.out HNL.out (by omega) hcO
  have hncO : (n : Int) ≤ (cO : Int) := by omega
  go_wp2_with fail
  refine (Build_any _ L _ (by have := HNL.out; omega) RD).mono ?_
  rintro e w4 ⟨a, rfl, hA4, hb4⟩
  have HA4 : Hid (At w4 (Tr.buildT (good L)) a) := hA4
  have HB4 : Hid (Below w1.heap.size w1 w4) := Rk.bT HB3.out hb4
  have HO4 : Hid (w4.ownsRow w1.heap.size 32 4 (.slice (some ⟨gO, 0, none⟩) (n + 2) cO) (n + 2) (cells (L ++ marks2))) := Rk.own_keep HO3.out hb4
  clear hA4 hb4 HO3 HB3 RD
  have hTz : (Tr.buildT (good L)).size ≤ 5000 := by
    have h1 := (Tr.buildT_ok _ (good L) (Nat.le_refl _)).2
    have h2 := good_le L
    have h3 := HNL.out
    rw [← Tr.size_list, h1]
    omega
  generalize Tr.buildT (good L) = T at *
  go_wp2_with fail
  refine (Len_any T a _ (HA4.out.alloc _)).mono ?_
  rintro e w5 ⟨rfl, hw5⟩
  subst hw5
  have KP5 : Hid (Kp w (((w4.alloc (.cells #[.pointer a] 26)).alloc (.cells #[.pointer a] 26)).alloc (.cells #[.int .i64 (T.size : Nat)] 3)) w4.heap.size (w4.heap.size + 1 + 1) stop false a T) := by
    have k1 := bAlloc (Below.refl _ w4) (.cells #[.pointer a] 26)
    have k2 := bAlloc (Below.refl _ (w4.alloc (.cells #[.pointer a] 26))) (.cells #[.pointer a] 26)
    have k3 := bAlloc (Below.refl _ ((w4.alloc (.cells #[.pointer a] 26)).alloc (.cells #[.pointer a] 26))) (.cells #[.int .i64 (T.size : Nat)] 3)
    have kk := Rk.bT (Rk.bT k1 k2) k3
    refine ⟨(B3.out.keep HB4.out).keep kk, (B4.out.keep HB4.out).keep kk, ((Rk.Box.new w4 (.pointer a) 26).keep k2).keep k3, ?_, HA4.out.keep kk, Rk.bT (Rk.bT W1.out HB4.out) kk⟩
    have := Rk.Box.new ((w4.alloc (.cells #[.pointer a] 26)).alloc (.cells #[.pointer a] 26)) (.int .i64 (T.size : Nat)) 3
    simpa using this
  have HO5 : Hid ((((w4.alloc (.cells #[.pointer a] 26)).alloc (.cells #[.pointer a] 26)).alloc (.cells #[.int .i64 (T.size : Nat)] 3)).ownsRow w1.heap.size 32 4 (.slice (some ⟨gO, 0, none⟩) (n + 2) cO) (n + 2) (cells (L ++ marks2))) := ((HO4.out.alloc _).alloc _).alloc _
  have HB5 : Hid (Below w1.heap.size w1 (((w4.alloc (.cells #[.pointer a] 26)).alloc (.cells #[.pointer a] 26)).alloc (.cells #[.int .i64 (T.size : Nat)] 3))) := bAlloc (bAlloc (bAlloc HB4.out _) _) _
  have HZ : Hid (T.size ≤ 2097152) := (by omega : T.size ≤ 2097152)
  go_wp2_with fail
  refine (Rows_any T a _ HZ KP5.out.tree).mono ?_
  rintro e w6 ⟨a9, c9, rfl, hown6, hb6⟩
  have KP6 : Hid (Kp w w6 w4.heap.size (w4.heap.size + 1 + 1) stop false a T) := KP5.out.below hb6
  have RR6 : Hid (Rk.Rrs w1 w6 [⟨32, 4, .slice (some ⟨gO, 0, none⟩) (n + 2) cO, n + 2, cells (L ++ marks2)⟩, ⟨53, 10, .slice a9 T.size c9, T.size, rcells (rowsT T)⟩]) := by
    have h0 : Rk.Rrs w1 (((w4.alloc (.cells #[.pointer a] 26)).alloc (.cells #[.pointer a] 26)).alloc (.cells #[.int .i64 (T.size : Nat)] 3)) [⟨32, 4, .slice (some ⟨gO, 0, none⟩) (n + 2) cO, n + 2, cells (L ++ marks2)⟩] :=
      ⟨fun i r hi => by
        cases i with
        | zero => simp at hi; subst hi; exact HO5.out
        | succ i => simp at hi, fun i j p q hij hi hj => by
        cases i with
        | zero => cases j with
          | zero => omega
          | succ j => simp at hj
        | succ i => simp at hi, HB5.out⟩
    exact h0.new hb6 hown6
  clear hown6 hb6 KP5 HO5 HB5 HO4 HA4 HB4 B3 B4
  generalize w4.heap.size = b7 at *
  have O6 : Hid (w6.ownsRow w1.heap.size 53 10 (.slice a9 T.size c9) T.size (rcells (rowsT T))) := RR6.out.own 1 _ rfl
  go_wp2_with (at_builtin; refine Rk.append_srv rfl (.tmp 46) (.tmp 47) 50 rfl w6.heap.size 53 i53 (.agg #[.int .i64 0, .int .i64 0, .int .i64 0, .int .i64 0, .bool false, .bool false, .bool false, .int .i64 0, .int .i64 0, .int .i64 0]) 10 64 Try.underlying50 hi53 hz53 hs53 hb53 rfl (by decide) (.slice (some ⟨w6.heap.size, 0, none⟩) 0 0) 0 [] rfl (World.ownsRow_made w6 #[] 0 (Nat.le_refl _) (by decide) rfl) (.slice a9 T.size c9) T.size (rcells (rowsT T)) rfl ((Rk.own_srv O6.out).keep (bAlloc (Below.refl _ _) _)) (by rw [rcells_length, rowsT_length]) (rcells_one _) (by unfold maxLen; omega) (by omega) (by simp) ?_)
  intro v7 w7 hown7 hgrow7 hfr7
  clear hfr7
  have hb7 : Below w6.heap.size w6 w7 := (bAlloc (Below.refl _ _) _).grown hgrow7 (by simp) (fun k hk => by simp [Value.ownBlock] at hk; omega)
  have hown7' : w7.ownsRow w6.heap.size 53 10 v7 T.size (rcells (rowsT T)) := by simpa using hown7
  obtain ⟨a10, c10, hv7⟩ := own_shape hown7'
  subst hv7
  have KP7 : Hid (Kp w w7 b7 (b7 + 1 + 1) stop false a T) := KP6.out.below hb7
  have RR7 : Hid (Rk.Rrs w1 w7 [⟨32, 4, .slice (some ⟨gO, 0, none⟩) (n + 2) cO, n + 2, cells (L ++ marks2)⟩, ⟨53, 10, .slice a9 T.size c9, T.size, rcells (rowsT T)⟩, ⟨53, 10, .slice a10 T.size c10, T.size, rcells (rowsT T)⟩]) := RR6.out.new hb7 hown7'
  clear hown7 hgrow7 hb7 hown7' KP6 RR6 O6
  have hw1 : Hid (w.heap.size ≤ w1.heap.size) := W1.out.size
  go_wp2_with fail
  go_loopw [11] (fun x wr => ∃ (i : Nat) (xs : List Value), i ≤ n ∧ x = .int .i64 i ∧ (∀ q, i * 4 ≤ q → xs[q]? = (cells (L ++ marks2))[q]?) ∧ Kp w wr b7 (b7 + 1 + 1) stop false a T ∧ Rk.Rrs w1 wr [⟨32, 4, .slice (some ⟨gO, 0, none⟩) (n + 2) cO, n + 2, xs⟩, ⟨53, 10, .slice a9 T.size c9, T.size, rcells (rowsT T)⟩, ⟨53, 10, .slice a10 T.size c10, T.size, rcells (rowsT T)⟩]) (fun x _ => n - (intOf x).toNat)
  case atStart => exact ⟨0, _, Nat.zero_le _, rfl, fun _ _ => rfl, KP7.out, RR7.out⟩
  case round =>
    obtain ⟨i, xs, hi, rfl, hxs, hK, hR⟩ := hrel
    have HXS := hid hxs
    have KP := hid hK
    have RR := hid hR
    clear hxs hK hR KP7 RR7
    have OX : Hid (wr.ownsRow w1.heap.size 32 4 (.slice (some ⟨gO, 0, none⟩) (n + 2) cO) (n + 2) xs) := RR.out.own 0 _ rfl
    by_cases hlt : i < n
    · obtain ⟨p, hp⟩ : ∃ p, L[i]? = some p := ⟨_, List.getElem?_eq_getElem (by have := HNL.out; omega)⟩
      have hpL : (L ++ marks2)[i]? = some p := by rw [List.getElem?_append_left (by have := HNL.out; omega)]; exact hp
      have cO' := fun q (hq : q < 4) => ((OX.out.cellAt (i * 4 + q) (by omega)).trans (HXS.out (i * 4 + q) (by omega))).trans (cells_at hpL q hq)
      obtain ⟨s, o, len, nn⟩ := p
      have r0 : wr.cell? ⟨gO, i * 4, none⟩ = some (.int .i64 s) := by simpa [Pc.cs] using cO' 0 (by omega)
      have r1 : wr.cell? ⟨gO, i * 4 + 1, none⟩ = some (.int .i64 o) := by simpa [Pc.cs] using cO' 1 (by omega)
      have r2 : wr.cell? ⟨gO, i * 4 + 2, none⟩ = some (.int .i64 len) := by simpa [Pc.cs] using cO' 2 (by omega)
      have r3 : wr.cell? ⟨gO, i * 4 + 3, none⟩ = some (.int .i64 nn) := by simpa [Pc.cs] using cO' 3 (by omega)
      have f0 := OX.out.frozenAt (i * 4)
      have f1 := OX.out.frozenAt (i * 4 + 1)
      have f2 := OX.out.frozenAt (i * 4 + 2)
      have f3 := OX.out.frozenAt (i * 4 + 3)
      have hrd := hr.out.keep KP.out.bel
      obtain ⟨ao', n', c', e, -, -, h4⟩ := hrd
      simp at e
      obtain ⟨rfl, rfl, rfl⟩ := e
      rcases h4 with h4 | ⟨bl, off, e, hrow⟩
      · exfalso; subst h4; simp at hp
      · subst e
        obtain ⟨q0, q1, q2, q3⟩ := hrow i _ hp
        simp only at q0 q1 q2 q3
        have hi0 : (0 : Int) ≤ (i : Int) := by omega
        have hin : (i : Int) < (n : Int) := by omega
        clear hp hpL cO' hrow
        go_wp2
        go_region
        have k0 := kr_put (i := 0) (g := gO) ⟨KP.out.below (Below.refl _ _).drew, RR.out.drew⟩ rfl hw1.out (by decide) (i * 4) (.int .i64 0)
        have k1 := kr_put (i := 0) (g := gO) k0 rfl hw1.out (by decide) (i * 4 + 1) (.int .i64 0)
        have k2 := kr_put (i := 0) (g := gO) k1 rfl hw1.out (by decide) (i * 4 + 2) (.int .i64 0)
        have k3 := kr_put (i := 0) (g := gO) k2 rfl hw1.out (by decide) (i * 4 + 3) (.int .i64 5)
        have K3 := hid k3
        have HX3 : Hid (∀ q, (i + 1) * 4 ≤ q → ((((xs.set (i * 4) (.int .i64 0)).set (i * 4 + 1) (.int .i64 0)).set (i * 4 + 2) (.int .i64 0)).set (i * 4 + 3) (.int .i64 5))[q]? = (cells (L ++ marks2))[q]?) := fun q hq => by
          rw [set_ge (by omega), set_ge (by omega), set_ge (by omega), set_ge (by omega)]; exact HXS.out q (by omega)
        clear k0 k1 k2 k3 KP RR OX HXS q0 q1 q2 q3
        go_wp2
        go_roundw
        case rel => exact ⟨i + 1, _, by omega, by go_num, HX3.out, K3.out.1, K3.out.2⟩
        case measure => simp [intOf]; omega
    · obtain rfl : i = n := by omega
      have cL : ∀ j, j < 8 → wr.cell? ⟨gO, i * 4 + j, none⟩ = (cells marks2)[j]? := fun j hj => by
        rw [OX.out.cellAt (i * 4 + j) (by omega), HXS.out (i * 4 + j) (by omega), cells_append, List.getElem?_append_right (by rw [cells_length, HNL.out]; omega), cells_length, HNL.out, show i * 4 + j - i * 4 = j from by omega]
      have HM : Hid (xs[i * 4 + 3]? = some (.int .i64 77) ∧ xs[(i + 1) * 4 + 3]? = some (.int .i64 78)) := by
        have e1 := cL 3 (by omega)
        have e2 := cL 7 (by omega)
        rw [OX.out.cellAt (i * 4 + 3) (by omega)] at e1
        rw [OX.out.cellAt (i * 4 + 7) (by omega)] at e2
        exact ⟨e1, by rw [show (i + 1) * 4 + 3 = i * 4 + 7 from by omega]; exact e2⟩
      clear cL OX HXS
      obtain ⟨wA, hwA⟩ : ∃ wA : World, wA = wr := ⟨_, rfl⟩
      subst hwA
      go_wp2_with fail
      go_loopw [12] (fun x wr => ∃ (j : Nat) (ys : List Value), j ≤ T.size ∧ x = .int .i64 j ∧ Kp w wr b7 (b7 + 1 + 1) stop false a T ∧ Rk.Rrs w1 wr [⟨32, 4, .slice (some ⟨gO, 0, none⟩) (i + 2) cO, i + 2, xs⟩, ⟨53, 10, .slice a9 T.size c9, T.size, ys⟩, ⟨53, 10, .slice a10 T.size c10, T.size, rcells (rowsT T)⟩]) (fun x _ => T.size - (intOf x).toNat)
      case atStart => exact ⟨0, _, Nat.zero_le _, rfl, KP.out, RR.out⟩
      case round =>
        obtain ⟨j, ys, hj, rfl, hK, hR⟩ := hrel
        clear KP RR
        have KP := hid hK
        have RR := hid hR
        clear hK hR
        have OY : Hid (wr.ownsRow w1.heap.size 53 10 (.slice a9 T.size c9) T.size ys) := RR.out.own 1 _ rfl
        have hT5 : (T.size : Int) ≤ 5000 := by omega
        by_cases hlj : j < T.size
        · have hg9 : ∃ g9, a9 = some ⟨g9, 0, none⟩ := by
            rcases OY.out.2 with ⟨_, h0⟩ | ⟨g, cap, cur, e, _⟩
            · omega
            · simp at e; exact ⟨g, e.1⟩
          obtain ⟨g9, e9⟩ := hg9
          subst e9
          have hyl : ys.length = T.size * 10 := OY.out.1
          have cY := fun q (hq : q < 10) => (⟨_, (OY.out.cellAt (j * 10 + q) (by omega)).trans (List.getElem?_eq_getElem (by omega))⟩ : ∃ z, wr.cell? ⟨g9, j * 10 + q, none⟩ = some z)
          obtain ⟨z0, y0⟩ := cY 0 (by omega)
          obtain ⟨z1, y1⟩ := cY 1 (by omega)
          obtain ⟨z2, y2⟩ := cY 2 (by omega)
          obtain ⟨z3, y3⟩ := cY 3 (by omega)
          obtain ⟨z4, y4⟩ := cY 4 (by omega)
          obtain ⟨z5, y5⟩ := cY 5 (by omega)
          obtain ⟨z6, y6⟩ := cY 6 (by omega)
          obtain ⟨z7, y7⟩ := cY 7 (by omega)
          obtain ⟨z8, y8⟩ := cY 8 (by omega)
          obtain ⟨z9, y9⟩ := cY 9 (by omega)
          rw [Nat.add_zero] at y0
          have g0 := OY.out.frozenAt (j * 10)
          have g1 := OY.out.frozenAt (j * 10 + 1)
          have g2 := OY.out.frozenAt (j * 10 + 2)
          have g3 := OY.out.frozenAt (j * 10 + 3)
          have g4 := OY.out.frozenAt (j * 10 + 4)
          have g5 := OY.out.frozenAt (j * 10 + 5)
          have g6 := OY.out.frozenAt (j * 10 + 6)
          have g7 := OY.out.frozenAt (j * 10 + 7)
          have g8 := OY.out.frozenAt (j * 10 + 8)
          have g9' := OY.out.frozenAt (j * 10 + 9)
          have k0 := kr_put (i := 1) (g := g9) ⟨KP.out, RR.out⟩ rfl hw1.out (by decide) (j * 10) (.int .i64 0)
          have k1 := kr_put (i := 1) (g := g9) k0 rfl hw1.out (by decide) (j * 10 + 1) (.int .i64 0)
          have k2 := kr_put (i := 1) (g := g9) k1 rfl hw1.out (by decide) (j * 10 + 2) (.int .i64 0)
          have k3 := kr_put (i := 1) (g := g9) k2 rfl hw1.out (by decide) (j * 10 + 3) (.int .i64 0)
          have k4 := kr_put (i := 1) (g := g9) k3 rfl hw1.out (by decide) (j * 10 + 4) (.bool false)
          have k5 := kr_put (i := 1) (g := g9) k4 rfl hw1.out (by decide) (j * 10 + 5) (.bool false)
          have k6 := kr_put (i := 1) (g := g9) k5 rfl hw1.out (by decide) (j * 10 + 6) (.bool false)
          have k7 := kr_put (i := 1) (g := g9) k6 rfl hw1.out (by decide) (j * 10 + 7) (.int .i64 (-1))
          have k8 := kr_put (i := 1) (g := g9) k7 rfl hw1.out (by decide) (j * 10 + 8) (.int .i64 0)
          have k9 := kr_put (i := 1) (g := g9) k8 rfl hw1.out (by decide) (j * 10 + 9) (.int .i64 0)
          have K9 := hid k9
          clear k0 k1 k2 k3 k4 k5 k6 k7 k8 k9 cY hyl KP RR OY
          have hj0 : (0 : Int) ≤ (j : Int) := by omega
          have hj1 : (j : Int) < (T.size : Int) := by omega
          go_wp2
          go_roundw
          case rel => exact ⟨j + 1, _, by omega, by go_num, K9.out.1, K9.out.2⟩
          case measure => simp [intOf]; omega
        · obtain rfl : j = T.size := by omega
          clear OY
          obtain ⟨wB, hwB⟩ : ∃ wB : World, wB = wr := ⟨_, rfl⟩
          subst hwB
          go_wp2_with fail
          go_loopw [9, 13] (fun v x wr => ∃ (k : Nat) (zs : List Value), k ≤ 20 ∧ x = .int .i64 k ∧ Kp w wr b7 (b7 + 1 + 1) stop false a T ∧ Rk.Rrs w1 wr [⟨32, 4, .slice (some ⟨gO, 0, none⟩) (i + 2) cO, i + 2, xs⟩, ⟨53, 10, v, T.size + k, zs⟩, ⟨53, 10, .slice a10 T.size c10, T.size, rcells (rowsT T)⟩]) (fun _ x _ => 20 - (intOf x).toNat)
          case atStart => exact ⟨0, _, Nat.zero_le _, rfl, KP.out, RR.out⟩
          case round =>
            obtain ⟨k, zs, hk, rfl, hK, hR⟩ := hrel
            clear KP RR
            have KP := hid hK
            have RR := hid hR
            clear hK hR
            have OZ : Hid (wr.ownsRow w1.heap.size 53 10 u9 (T.size + k) zs) := RR.out.own 1 _ rfl
            obtain ⟨ar, cr, hur⟩ := own_shape OZ.out
            subst hur
            by_cases hlk : k < 20
            · have hk1 : (k : Int) < 20 := by omega
              go_wp2_with (at_builtin; refine Rk.append_srv rfl (.tmp 82) (.tmp 84) 50 rfl w1.heap.size 53 i53 (.agg #[.int .i64 0, .int .i64 0, .int .i64 0, .int .i64 0, .bool false, .bool false, .bool false, .int .i64 0, .int .i64 0, .int .i64 0]) 10 64 Try.underlying50 hi53 hz53 hs53 hb53 rfl (by decide) (.slice ar (T.size + k) cr) (T.size + k) zs rfl (OZ.out.alloc _) (.slice (some ⟨wr.heap.size, 0, none⟩) 1 1) 1 rowM.cs rfl (.inr ⟨⟨wr.heap.size, 0, none⟩, 1, rfl, fun j t hj => lit_cells wr _ 53 j t hj⟩) rfl (row_one rowM) (by unfold maxLen; omega) (by omega) (by have := RR.out.bel.size; simp; omega) ?_)
              intro v' w' hown' hgrow' hfr'
              have K2 : Hid (Kp w w' b7 (b7 + 1 + 1) stop false a T) := (KP.out.below (bAlloc (Below.refl _ _) _)).grown (OZ.out.alloc _) hgrow' hw1.out (by decide)
              have R2 : Hid (Rk.Rrs w1 w' [⟨32, 4, .slice (some ⟨gO, 0, none⟩) (i + 2) cO, i + 2, xs⟩, ⟨53, 10, v', T.size + k + 1, zs ++ rowM.cs⟩, ⟨53, 10, .slice a10 T.size c10, T.size, rcells (rowsT T)⟩]) := (RR.out.alloc _).grow (i := 1) rfl hgrow' hown' (by rcases hfr' with e | ⟨q, e, hq⟩; exact .inl e; exact .inr ⟨q, e, by simpa using hq⟩)
              clear hown' hgrow' hfr' KP RR OZ
              go_wp2
              go_roundw
              case rel => exact ⟨k + 1, _, by omega, by go_num, K2.out, R2.out⟩
              case measure => simp [intOf]; omega
            · obtain rfl : k = 20 := by omega
              have OX : Hid (wr.ownsRow w1.heap.size 32 4 (.slice (some ⟨gO, 0, none⟩) (i + 2) cO) (i + 2) xs) := RR.out.own 0 _ rfl
              have d1 : wr.cell? ⟨gO, i * 4 + 3, none⟩ = some (.int .i64 77) := (OX.out.cellAt _ (by omega)).trans HM.out.1
              have d2 : wr.cell? ⟨gO, (i + 1) * 4 + 3, none⟩ = some (.int .i64 78) := (OX.out.cellAt _ (by omega)).trans HM.out.2
              have OK' : Hid (wr.ownsRow w1.heap.size 53 10 (.slice a10 T.size c10) T.size (rcells (rowsT T))) := RR.out.own 2 _ rfl
              obtain ⟨d7, -⟩ := KP.out.b7.cell
              clear OZ RR HM OX
              go_wp2_with fail
              refine (Rows_any T a _ HZ KP.out.tree).mono ?_
              rintro e w8 ⟨a8, c8, rfl, hown8, hb8⟩
              have KP8 := hid (KP.out.below hb8)
              have O8 := hid hown8
              have OK8 := hid (Rk.own_keep OK'.out hb8)
              clear hown8 hb8 KP OK' d1 d2 d7
              go_wp2_with fail
              refine (sameRows_any a8 c8 a10 c10 _ _ T.size (rowsT T) _ (by omega) (rowsT_length T) O8 OK8).mono ?_
              rintro e w9 ⟨rfl, hb9⟩
              have KP9 := hid (KP8.out.below hb9)
              clear hb9 KP8 O8 OK8
              obtain ⟨d7, -⟩ := KP9.out.b7.cell
              go_wp2_with fail
              refine (all_any a w9).mono ?_
              rintro e w10 ⟨rfl, hw10⟩
              subst hw10
              clear hr HNL SV hn0 hcO hncO hbig HZ
              go_wp2
              obtain ⟨V, hV⟩ : ∃ V, (w9.alloc (.cells #[.pointer a] 26)).alloc (.cells #[.func (.func 65) #[] #[.pointer (some ⟨w9.heap.size, 0, none⟩)]] 56) = V := ⟨_, rfl⟩
              have hVb : Below w9.heap.size w9 V := by rw [← hV]; exact bAlloc (bAlloc (Below.refl _ _) _) _
              have HVS : Hid (V.heap.size = w9.heap.size + 1 + 1) := by unfold Hid; rw [← hV]; simp
              have hVs : w9.heap.size + 2 ≤ V.heap.size := by have := HVS.out; omega
              have BSQ : Hid (Rk.Box V w9.heap.size (.pointer a) 26) := by rw [← hV]; exact (Rk.Box.new w9 _ _).keep (bAlloc (Below.refl _ _) _)
              have BFV : Hid (Rk.Box V (w9.heap.size + 1) (.func (.func 65) #[] #[.pointer (some ⟨w9.heap.size, 0, none⟩)]) 56) := by
                have := Rk.Box.new (w9.alloc (.cells #[.pointer a] 26)) (.func (.func 65) #[] #[.pointer (some ⟨w9.heap.size, 0, none⟩)]) 56
                rw [← hV]; unfold Hid; simpa using this
              rw [hV, ← HVS.out]
              have KPV := hid (KP9.out.below hVb)
              clear hV
              have hI0 : RI V 0 (V.alloc (.cells #[.int .i64 0] 3)) := ⟨bAlloc (Below.refl _ _) _, Rk.Box.new _ _ _⟩
              have hs10 : (V.alloc (.cells #[.int .i64 0] 3)).heap.size = V.heap.size + 1 := by simp
              refine (wpIn_wide (n := 9)).1 ?_
              generalize ha₀ : Act.mk _ _ = a₀
              generalize hQ : Exit.inBlock 6 _ = Q
              have CONT : ∀ (W : World) (F : Int), RI V F W → W.heap[V.heap.size + 1]? = some (.deferred (some [])) → ((1 ≤ stop ∧ stop < (T.size : Int)) → F = stop) → (¬ (1 ≤ stop ∧ stop < (T.size : Int)) → F = (T.size : Int)) → Q .normal { tmps := a₀.tmps, defers := { target := .collected (V.heap.size + 1), args := #[] } :: a₀.defers } W := by
                intro W F hI hD hF1 hF2
                subst hQ
                subst ha₀
                obtain ⟨c15, -⟩ := hI.ct.cell
                obtain ⟨c3, -⟩ := (KPV.out.below hI.bel).b3.cell
                obtain ⟨c8, -⟩ := (KPV.out.below hI.bel).b8.cell
                have HI := hid hI
                have HD := hid hD
                clear hI hD
                have hT0 : (0 : Int) ≤ (T.size : Int) := by omega
                go_upto_region 36 with fail
                go_cut [130] from 124 to 129 (fun x wx => x = .bool (decide (1 ≤ stop ∧ stop < (T.size : Int))) ∧ wx = W)
                case first =>
                  clear hF1 hF2
                  by_cases h1 : 1 ≤ stop
                  · by_cases h2 : stop < (T.size : Int)
                    · go_wp2_with fail
                      go_meet
                      exact ⟨by rw [decide_eq_true ⟨h1, h2⟩], rfl⟩
                    · go_wp2_with fail
                      go_meet
                      exact ⟨by rw [decide_eq_false (by omega)], rfl⟩
                  · go_wp2_with fail
                    go_meet
                    exact ⟨by rw [decide_eq_false (by omega)], rfl⟩
                case rest =>
                obtain ⟨rfl, hwc⟩ := hcut
                subst hwc
                go_upto_if 130 with fail
                go_cut [17] from 130 to 138 (fun _ wx => wx = wc)
                case first =>
                  by_cases h1 : 1 ≤ stop ∧ stop < (T.size : Int)
                  · have e := hF1 h1
                    subst e
                    have hd : decide (1 ≤ F ∧ F < (T.size : Int)) = true := decide_eq_true h1
                    rw [hd]
                    clear hF1 hF2
                    go_wp2_with fail
                    go_meet
                    rfl
                  · have e := hF2 h1
                    subst e
                    have hd : decide (1 ≤ stop ∧ stop < (T.size : Int)) = false := decide_eq_false h1
                    rw [hd]
                    clear hF1 hF2
                    go_wp2_with fail
                    go_meet
                    rfl
                case rest =>
                have hwc2 := hcut
                subst hwc2
                clear hF1 hF2
                clear hcut c15 c3 c8
                obtain ⟨f14, -⟩ := (BFV.out.keep HI.out.bel).cell
                have f14a := alp f14
                go_wp2
                have KPW := hid (KPV.out.below HI.out.bel)
                have BSW := hid (BSQ.out.keep HI.out.bel)
                have BFW := hid (BFV.out.keep HI.out.bel)
                have hWs : V.heap.size + 2 ≤ wc.heap.size := by have := (Array.getElem?_eq_some_iff.1 HD.out).1; omega
                have hI2 : RI wc 0 (wc.alloc (.cells #[.int .i64 0] 3)) := ⟨bAlloc (Below.refl _ _) _, Rk.Box.new _ _ _⟩
                have hs12 : (wc.alloc (.cells #[.int .i64 0] 3)).heap.size = wc.heap.size + 1 := by simp
                refine (wpIn_wide (n := 9)).1 ?_
                generalize ha₁ : Act.mk _ _ = a₁
                refine wpIn_ring (F := Fence.wide) rfl rfl (by rw [← ha₁]; rfl) trivial (enters_of Try.func65 (by kernel_rfl) rfl)
                  (all_seq (fun k => k < wc.heap.size) wc T a w9.heap.size (wc.alloc (.cells #[.int .i64 0] 3)) KPW.out.tree (fun b cs hb => (Array.getElem?_eq_some_iff.1 hb).1) (fun k hk _ => (bAlloc (Below.refl _ wc) _).block k hk) (by rw [hs12]; omega) (BSW.out.keep (bAlloc (Below.refl _ _) _)) (by omega)) (Below.refl _ _) (fun k hk => by rw [hs12]; omega) (fun _ _ => rfl)
                  (fun pre W => RI wc (pre.length : Int) W) (fun _ _ _ => False)
                  (fun s A B h hk => h.stab (by rw [hs12] at hk; exact hk)) (fun c s A B h hk => h) hI2
                  (fun pre p a' W => ∃ Bx, W.heap[Bx]? = some (.cells #[.int .i64 p.s, .int .i64 p.o, .int .i64 p.l, .int .i64 p.n] 32 (0, 0)) ∧ wc.heap.size + 1 + 4 ≤ Bx ∧ a' = { tmps := (((a₁.tmps.setIfInBounds 139 (.int .i64 (pre.length : Int))).setIfInBounds 140 p.v).setIfInBounds 19 (.int .i64 (pre.length : Int))).setIfInBounds 20 (.pointer (some ⟨Bx, 0, none⟩)), defers := [] })
                  ?hAx2 ?assign2 ?body2 ?done2 (fun _ _ _ _ h _ => h.elim)
                case hAx2 =>
                  rintro pre p a' ⟨⟩ A B ⟨Bx, h1, h2, h3⟩ hk
                  rw [hs12] at hk
                  exact ⟨Bx, (hk.block _ (Array.getElem?_eq_some_iff.1 h1).1 (by omega)).trans h1, h2, h3⟩
                case assign2 =>
                  rintro l pre ⟨s, o, len, nn⟩ W K hi hbig hpre hK
                  subst ha₁
                  simp only [Pc.v] at hK ⊢
                  have HK := hid hK
                  clear hK
                  gi_wp2
                  rw [hs12] at hbig
                  refine HK.out _ _ (Rnd.alloc _ _ _ _ _) ⟨hi.bel.trans ((bAlloc (Below.refl _ _) _).mono (by omega)), hi.ct.keep (bAlloc (Below.refl _ _) _)⟩ ⟨W.heap.size, heap_alloc_new _ _, by omega, ?as6⟩
                  case as6 => simp only [List.setIfInBounds_toArray, List.set_cons_zero, List.set_cons_succ]
                case body2 =>
                  rintro l pre ⟨s, o, len, nn⟩ a' W rfl ⟨r, hr⟩ hI hbig ⟨Bx, hx, hBx, rfl⟩ hpre
                  subst ha₁
                  rw [hs12] at hbig hr
                  have hpl : pre.length < T.size := by have := hpre.length_le; rw [T.size_list] at this; simp at this; omega
                  have hget := pre_at hpre
                  obtain ⟨e0, e1, e2, e3⟩ := cells4 hx
                  have KW := hid (KPW.out.below hI.bel)
                  obtain ⟨g7, -⟩ := KW.out.b7.cell
                  have HII := hid hI
                  have HXB := hid hx
                  have HRR := hid hr
                  clear hI hx hr hpre f14 f14a
                  simp only [Pc.v, List.setIfInBounds_toArray, List.set_cons_zero, List.set_cons_succ]
                  gi_wp2_with fail
                  refine ⟨trivial, ?_⟩
                  refine (CallsIn.inRound _ (callsIn_wide.2 (Get_yes T a pre.length W hpl (by omega) KW.out.tree))).mono ?_
                  rintro e W2 ⟨s', o', n', k', hg2, rfl, hb2⟩
                  have ee : (⟨s', o', n', k'⟩ : Pc) = ⟨s, o, len, nn⟩ := by rw [hget] at hg2; simpa using hg2.symm
                  injection ee with q1 q2 q3 q4
                  subst q1 q2 q3 q4
                  have I2 := hid (HII.out.below hb2)
                  have KW2 := hid (KW.out.below hb2)
                  have HX2 : Hid (W2.heap[Bx]? = some (.cells #[.int .i64 s', .int .i64 o', .int .i64 n', .int .i64 k'] 32 (0, 0))) := (hb2.block _ (Array.getElem?_eq_some_iff.1 HXB.out).1).trans HXB.out
                  have HR2 : Hid (W2.heap[wc.heap.size + 1 + 1]? = some (.loop r)) := (hb2.block _ (Array.getElem?_eq_some_iff.1 HRR.out).1).trans HRR.out
                  have hW2 := hb2.size
                  have RN2 : Hid (Rnd (fun k => k < wc.heap.size) (wc.heap.size + 1) (wc.heap.size + 1 + 2 + 2) W W2) := Rnd.of_below hb2 (fun k hk => by have := HII.out.bel.size; omega) (by omega)
                  clear e0 e1 e2 e3 g7 hg2 hget hb2 HII KW HXB HRR
                  obtain ⟨e0, e1, e2, e3⟩ := cells4 HX2.out
                  have m0 := alp e0
                  have m1 := alp e1
                  have m2 := alp e2
                  have m3 := alp e3
                  obtain ⟨c18, x18⟩ := I2.out.ct.cell
                  have c18a := alp c18
                  have hwc2 : wc.heap.size < W2.heap.size := I2.out.ct.lt
                  have hBx2 : Bx < W2.heap.size := (Array.getElem?_eq_some_iff.1 HX2.out).1
                  have n1 : ¬ Bx = W2.heap.size := by omega
                  have n2 : ¬ wc.heap.size = W2.heap.size := by omega
                  have n3 : ¬ W2.heap.size = wc.heap.size := by omega
                  have R3 : Hid (RI wc ((pre.length : Int) + 1) ((W2.setCell ⟨wc.heap.size, 0, none⟩ (.int .i64 ((pre.length : Int) + 1))).alloc (.cells #[.int .i64 s', .int .i64 o', .int .i64 n', .int .i64 k'] 32)) ∧ Rnd (fun k => k < wc.heap.size) (wc.heap.size + 1) (wc.heap.size + 1 + 2 + 2) W ((W2.setCell ⟨wc.heap.size, 0, none⟩ (.int .i64 ((pre.length : Int) + 1))).alloc (.cells #[.int .i64 s', .int .i64 o', .int .i64 n', .int .i64 k'] 32))) := by
                    obtain ⟨y1, y2⟩ := I2.out.step ((pre.length : Int) + 1) (wc.heap.size + 1 + 2 + 2)
                    exact ⟨y1.below (bAlloc (Below.refl _ _) _), (RN2.out.trans y2).trans (Rnd.alloc _ _ _ _ _)⟩
                  have hpl5 : (pre.length : Int) + 1 ≤ 5000 := by omega
                  by_cases h3 : (pre.length : Int) + 1 ≤ 3
                  · obtain ⟨b14, -⟩ := (BFW.out.keep (I2.out.step ((pre.length : Int) + 1) 0).1.bel).cell
                    have k14 := alp2 b14
                    have HRV : Hid (((W2.setCell ⟨wc.heap.size, 0, none⟩ (.int .i64 ((pre.length : Int) + 1))).alloc (.cells #[.int .i64 s', .int .i64 o', .int .i64 n', .int .i64 k'] 32)).heap[wc.heap.size + 1 + 1]? = some (.loop r)) := by
                      unfold Hid
                      have hl := (Array.getElem?_eq_some_iff.1 HR2.out).1
                      rw [Below.heap_alloc _ _ _ (by simpa using hl), Below.heap_setCell _ _ _ _ (by simp; omega)]
                      exact HR2.out
                    gi_wp2
                    have hV3s : ((W2.setCell ⟨wc.heap.size, 0, none⟩ (.int .i64 ((pre.length : Int) + 1))).alloc (.cells #[.int .i64 s', .int .i64 o', .int .i64 n', .int .i64 k'] 32)).heap.size = W2.heap.size + 1 := by simp
                    clear k14 b14
                    generalize (W2.setCell ⟨wc.heap.size, 0, none⟩ (.int .i64 ((pre.length : Int) + 1))).alloc (.cells #[.int .i64 s', .int .i64 o', .int .i64 n', .int .i64 k'] 32) = V3 at *
                    rw [← hV3s]
                    have hV3w : wc.heap.size + 1 + 2 + 2 ≤ V3.heap.size := by rw [hV3s]; omega
                    clear hV3s m0 m1 m2 m3 e0 e1 e2 e3 c18 c18a n1 n2 n3
                    have KP3 := hid (KPW.out.below R3.out.1.bel)
                    have BS3 := hid (BSW.out.keep R3.out.1.bel)
                    have hI3 : RI V3 0 (V3.alloc (.cells #[.int .i64 0] 3)) := ⟨bAlloc (Below.refl _ _) _, Rk.Box.new _ _ _⟩
                    have hs13 : (V3.alloc (.cells #[.int .i64 0] 3)).heap.size = V3.heap.size + 1 := by simp
                    generalize ha₂ : Act.mk _ _ = a₂
                    refine wpIn_ringN (r₀ := r) rfl rfl (by rw [hs12]; exact (Below.heap_alloc _ _ _ (Array.getElem?_eq_some_iff.1 HRV.out).1).trans HRV.out) (by rw [← ha₂]; rfl) trivial (enters_of Try.func65 (by kernel_rfl) rfl)
                      (SeqC.inRound _ (all_seq (fun k => k < V3.heap.size) V3 T a w9.heap.size (V3.alloc (.cells #[.int .i64 0] 3)) KP3.out.tree (fun b cs hb => (Array.getElem?_eq_some_iff.1 hb).1) (fun k hk _ => (bAlloc (Below.refl _ V3) _).block k hk) (by rw [hs13]; omega) (BS3.out.keep (bAlloc (Below.refl _ _) _)) (by omega))) (Below.refl _ _) (fun k hk => by rw [hs13]; omega) (fun _ _ => rfl)
                      (fun pre W => RI V3 (pre.length : Int) W) (fun _ _ _ => False)
                      (fun s A B h hk => h.stab (by rw [hs13] at hk; exact hk)) (fun c s A B h hk => h) hI3
                      (fun pre p a' W => a' = { tmps := (a₂.tmps.setIfInBounds 164 (.int .i64 (pre.length : Int))).setIfInBounds 165 p.v, defers := [] })
                      (fun pre x a' _ A B h _ => h) ?assign3 ?body3 ?done3 (fun _ _ _ _ h => h.elim)
                    case assign3 =>
                      rintro l pre ⟨s, o, len, nn⟩ W K hi hbig hpre hK
                      subst ha₂
                      simp only [Pc.v] at hK ⊢
                      have HK := hid hK
                      clear hK
                      gi_wp2
                      refine HK.out _ _ (Rnd.refl _ _ _ _) hi ?as7
                      case as7 => exact congrArg (fun t => Act.mk t []) (fold2 _ _ _ _ _)
                    case body3 =>
                      rintro l pre3 ⟨s3, o3, len3, nn3⟩ a' W rfl ⟨r3, hr3⟩ hI hbig rfl hpre
                      subst ha₂
                      clear hr3
                      obtain ⟨c23, x23⟩ := hI.ct.cell
                      have hpl3 : pre3.length + 1 ≤ 5000 := by have := hpre.length_le; rw [T.size_list] at this; simp at this; omega
                      obtain ⟨q1, q2⟩ := hI.step ((pre3.length : Int) + 1) (V3.heap.size + 1 + 1 + 2)
                      have Q1 := hid q1
                      have Q2 := hid q2
                      clear q1 q2 hI
                      simp only [Pc.v, List.setIfInBounds_toArray, List.set_cons_zero, List.set_cons_succ]
                      gi_wp2
                      rw [hs13]
                      refine ⟨Q2.out, ?_⟩
                      show RI V3 ((pre3 ++ [_]).length : Int) _
                      rw [List.length_append]
                      exact Q1.out
                    case done3 =>
                      intro W' hI
                      rw [T.size_list] at hI
                      subst ha₂
                      obtain ⟨c23, -⟩ := hI.ct.cell
                      obtain ⟨c8', -⟩ := (KP3.out.below hI.bel).b8.cell
                      have Z1 : Hid (RI wc ((pre.length : Int) + 1) W') := ⟨R3.out.1.bel.trans (hI.bel.mono R3.out.1.bel.size), R3.out.1.ct.keep hI.bel⟩
                      have Z2 : Hid (Rnd (fun k => k < wc.heap.size) (wc.heap.size + 1) (wc.heap.size + 1 + 2 + 2) W W') := R3.out.2.trans (Rnd.of_below hI.bel (fun k hk => by omega) hV3w)
                      clear hI
                      gi_wp2
                      rw [hs12]
                      refine ⟨Z2.out, ?_⟩
                      show RI wc ((pre ++ [_]).length : Int) _
                      rw [List.length_append]
                      exact Z1.out
                  · gi_wp2
                    rw [hs12]
                    refine ⟨R3.out.2, ?_⟩
                    show RI wc ((pre ++ [_]).length : Int) _
                    rw [List.length_append]
                    exact R3.out.1
                case done2 =>
                  rintro W hI hD2
                  rw [hs12] at hD2 ⊢
                  rw [T.size_list] at hI
                  subst ha₁
                  have KW := hid (KPW.out.below hI.bel)
                  obtain ⟨g18, -⟩ := hI.ct.cell
                  obtain ⟨g8, -⟩ := KW.out.b8.cell
                  obtain ⟨g4, x4⟩ := KW.out.b4.cell
                  have HII := hid hI
                  have HD2 := hid hD2
                  clear hI hD2 f14 f14a
                  go_wp2
                  have hwV : w.heap.size + 1 < w9.heap.size := KP9.out.b4.lt
                  have hWb : wc.heap.size ≤ W.heap.size := HII.out.bel.size
                  have hD1 : (W.setCell ⟨w.heap.size + 1, 0, none⟩ (.bool true)).heap[wc.heap.size + 1]? = some (.deferred (some [])) := (Below.heap_setCell _ _ _ _ (by simp; omega)).trans HD2.out
                  refine ⟨by simp, .inl ⟨_, _, rfl, run_takeDeferred hD1, ?_⟩⟩
                  have hD0 : ((W.setCell ⟨w.heap.size + 1, 0, none⟩ (.bool true)).putObj (wc.heap.size + 1) (.deferred none)).heap[V.heap.size + 1]? = some (.deferred (some [])) := by
                    rw [World.putObj_heap_other (by omega), Below.heap_setCell _ _ _ _ (by simp; omega), HII.out.bel.block _ (by omega)]
                    exact HD.out
                  refine ⟨by simp, .inl ⟨_, _, rfl, run_takeDeferred hD0, ?_⟩⟩
                  refine ⟨_, results4 rfl (x := true) ?res, rfl, ?bel⟩
                  case res =>
                    have h1 := KW.out.b4.cellset (.bool true)
                    unfold Rk.Box at h1 ⊢
                    rw [World.putObj_heap_other (by omega), World.putObj_heap_other (by omega)]
                    exact h1
                  case bel =>
                    have h1 : Below w.heap.size w (W.setCell ⟨w.heap.size + 1, 0, none⟩ (.bool true)) := KW.out.bel.setCell (by simp) _
                    refine h1.trans ⟨rfl, rfl, rfl, by simp, fun k hk => ?_⟩
                    rw [World.putObj_heap_other (by omega), World.putObj_heap_other (by omega)]
              refine wpIn_ring (F := Fence.wide) rfl rfl (by rw [← ha₀]; rfl) trivial (enters_of Try.func65 (by kernel_rfl) rfl)
                (all_seq (fun k => k < V.heap.size) w9 T a w9.heap.size (V.alloc (.cells #[.int .i64 0] 3)) KP9.out.tree (fun b cs hb => by have := (Array.getElem?_eq_some_iff.1 hb).1; omega) (fun k hk _ => (bAlloc hVb _).block k hk) (by rw [hs10]; omega) ((BSQ.out.keep (bAlloc (Below.refl _ _) _)) : _) (by omega)) (Below.refl _ _) (fun k hk => by rw [hs10]; omega) (fun _ _ => rfl)
                (fun pre W => RI V (pre.length : Int) W ∧ (stop < 1 ∨ (pre.length : Int) < stop))
                (fun c pre W => c = .exit 6 ∧ RI V (pre.length : Int) W ∧ 1 ≤ pre.length ∧ (pre.length : Int) = stop)
                (fun s A B h hk => ⟨h.1.stab (by rw [hs10] at hk; exact hk), h.2⟩) (fun c s A B h hk => ⟨h.1, h.2.1.stab (by rw [hs10] at hk; exact hk), h.2.2⟩) ⟨hI0, by simp; omega⟩
                (fun pre p a' W => a' = { tmps := ((a₀.tmps.setIfInBounds 113 (.int .i64 (pre.length : Int))).setIfInBounds 114 p.v).setIfInBounds 16 (.int .i64 (pre.length : Int)), defers := [] })
                (fun pre x a' _ A B h _ => h) ?assign ?body ?done ?stop
              case assign =>
                rintro l pre ⟨s, o, len, nn⟩ W K hi hbig hpre hK
                subst ha₀
                simp only [Pc.v] at hK ⊢
                have HK := hid hK
                clear hK
                gi_wp2
                refine HK.out _ _ (Rnd.refl _ _ _ _) hi ?as5
                case as5 => simp only [List.setIfInBounds_toArray, List.set_cons_zero, List.set_cons_succ]
              case body =>
                rintro l pre ⟨s, o, len, nn⟩ a' W rfl ⟨r, hr⟩ ⟨hI, hst⟩ hbig rfl hpre
                subst ha₀
                clear CONT hr
                obtain ⟨c15, f15⟩ := hI.ct.cell
                obtain ⟨c3, -⟩ := (KPV.out.below hI.bel).b3.cell
                have hn3 : w.heap.size < V.heap.size := KPV.out.b3.lt
                have hn3a : ¬ w.heap.size = V.heap.size := by omega
                have hn3b : ¬ V.heap.size = w.heap.size := by omega
                have hpl : pre.length + 1 ≤ 5000 := by have := hpre.length_le; rw [T.size_list] at this; simp at this; omega
                obtain ⟨q1, q2⟩ := hI.step ((pre.length : Int) + 1) (V.heap.size + 1 + 2 + 2)
                have Q1 := hid q1
                have Q2 := hid q2
                clear q1 q2 hI
                simp only [Pc.v, List.setIfInBounds_toArray, List.set_cons_zero, List.set_cons_succ]
                by_cases hx : (pre.length : Int) + 1 = stop
                · subst hx
                  gi_wp2
                  refine ⟨by rw [hs10]; exact Q2.out, rfl, by rw [List.length_append]; exact Q1.out, by simp, by simp⟩
                · have hx2 : ((pre.length : Int) + 1 == stop) = false := by rw [beq_eq_false_iff_ne]; exact hx
                  gi_wp2
                  refine ⟨by rw [hs10]; exact Q2.out, by rw [List.length_append]; exact Q1.out, ?_⟩
                  rw [List.length_append]
                  simp
                  omega
              case done =>
                rintro W ⟨hI, hst⟩ hD
                rw [hs10] at hD ⊢
                rw [T.size_list] at hI hst
                exact CONT W _ hI hD (fun h => by omega) (fun _ => rfl)
              case stop =>
                rintro c pre W hpre ⟨rfl, hI, h1, hst⟩ hD
                rw [hs10] at hD ⊢
                have hle := hpre.length_le
                rw [T.size_list] at hle
                have := CONT W _ hI hD (fun _ => hst) (fun h => by omega)
                subst hQ
                refine wpIn_wide.2 ?_
                refine wp_exit ?_
                simpa [Exit.inBlock] using this
end Go.Proofs.Ytpifjghhlcjedaa
