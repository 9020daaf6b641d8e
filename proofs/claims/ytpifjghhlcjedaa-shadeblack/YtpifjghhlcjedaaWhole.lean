/- The contract of the law's own function whole. -/
import Derived.Test.YtpifjghhlcjedaaWalks0
import Derived.Test.YtpifjghhlcjedaaCheck2
import Derived.Laws.Shifts
namespace Go.Proofs.Ytpifjghhlcjedaa
open Go.RowKit Go.Shelf
attribute [local go_sem] Oper.semAt_some

theorem results20 {tmps : Array Value} {w : World} {b : Nat} {x : Bool} (h : tmps.getD 4 undef = .pointer (some ⟨b, 0, none⟩)) (hc : Rk.Box w b (.bool x) 4) : (results Try.f20 tmps).run Try.prog w = .ok (.bool x) w := by
  obtain ⟨c, f⟩ := hc.cell
  have h' : tmps[4]?.getD undef = .pointer (some ⟨b, 0, none⟩) := by simpa using h
  simp [results, Try.results20, go_sem, h', c]

theorem bD' {a W : World} (h : Below a.heap.size a W) : Below a.heap.size a W.drew := h.drew
theorem bD2 {A B : World} (h : Below A.drew.heap.size A.drew B) : Below A.heap.size A B := ⟨h.os, h.tape, h.output, h.size, h.block⟩

/-- what whole keeps: its variables, the tree and the list -/
structure Wh (w W : World) (bn : Nat) (a ao : Option Addr) (n c : Nat) (T : Tr) (L : List Pc) : Prop where
  bt : Rk.Box W w.heap.size (.pointer a) 26
  bl : Rk.Box W (w.heap.size + 1) (.slice ao n c) 33
  br : Rk.Box W (w.heap.size + 1 + 1) (.bool false) 4
  bn : Rk.Box W bn (.int .i64 (n : Int)) 3
  tree : At W T a
  rd : Rdb W (.slice ao n c) L
  bel : Below w.heap.size w W
theorem Wh.below {w W W' : World} {bn : Nat} {a ao : Option Addr} {n c : Nat} {T : Tr} {L : List Pc} (h : Wh w W bn a ao n c T L) (hb : Below W.heap.size W W') : Wh w W' bn a ao n c T L :=
  ⟨h.bt.keep hb, h.bl.keep hb, h.br.keep hb, h.bn.keep hb, h.tree.keep hb, h.rd.keep hb, Rk.bT h.bel hb⟩

/-- between two rounds: what lay ahead of the three counters, and these -/
structure R3 (V : World) (q y z : Int) (W : World) : Prop where
  bel : Below V.heap.size V W
  c1 : Rk.Box W V.heap.size (.int .i64 q) 3
  c2 : Rk.Box W (V.heap.size + 1) (.int .i64 y) 3
  c3 : Rk.Box W (V.heap.size + 1 + 1) (.int .i64 z) 3
theorem R3.stab {V A B : World} {q y z : Int} {hi : Nat} (h : R3 V q y z A) (hk : Kept (V.heap.size + 4) hi A B) : R3 V q y z B := by
  have hs := h.c3.lt
  exact ⟨h.bel.trans ⟨hk.os, hk.tape, hk.output, hk.size, fun k hk' => hk.block k (by omega) (.inl (by omega))⟩, (hk.block _ (by omega) (.inl (by omega))).trans h.c1, (hk.block _ (by omega) (.inl (by omega))).trans h.c2, (hk.block _ hs (.inl (by omega))).trans h.c3⟩
theorem R3.below {V A B : World} {q y z : Int} (h : R3 V q y z A) (hb : Below A.heap.size A B) : R3 V q y z B :=
  ⟨h.bel.trans (hb.mono h.bel.size), h.c1.keep hb, h.c2.keep hb, h.c3.keep hb⟩
theorem Rk.Box.off {W : World} {b t k : Nat} {v u : Value} (h : Rk.Box W b v t) (hk : b ≠ k) : Rk.Box (W.setCell ⟨k, 0, none⟩ u) b v t := by
  unfold Rk.Box at h ⊢
  rw [Below.heap_setCell _ _ _ _ (by simpa using hk)]
  exact h
theorem R3.step {V W : World} {q y z : Int} (h : R3 V q y z W) (q' y' z' : Int) (hi : Nat) : R3 V q' y' z' (((W.setCell ⟨V.heap.size + 1, 0, none⟩ (.int .i64 y')).setCell ⟨V.heap.size + 1 + 1, 0, none⟩ (.int .i64 z')).setCell ⟨V.heap.size, 0, none⟩ (.int .i64 q')) ∧ Rnd (fun k => k < V.heap.size) (V.heap.size + 4) hi W (((W.setCell ⟨V.heap.size + 1, 0, none⟩ (.int .i64 y')).setCell ⟨V.heap.size + 1 + 1, 0, none⟩ (.int .i64 z')).setCell ⟨V.heap.size, 0, none⟩ (.int .i64 q')) := by
  refine ⟨⟨((h.bel.setCell (by simp) _).setCell (by simp; omega) _).setCell (Nat.le_refl _) _, ((h.c1.off (by omega)).off (by omega)).cellset _, ((h.c2.cellset _).off (by omega)).off (by omega), ((h.c3.off (by omega)).cellset _).off (by omega)⟩, ?_⟩
  exact ((Rnd.setCell _ _ _ (by simp) (.inl (by simp))).trans (Rnd.setCell _ _ _ (by simp; omega) (.inl (by simp)))).trans (Rnd.setCell _ _ _ (by simp) (.inl (by simp)))

theorem pre_sums {T : Tr} (hf : T.fine) {pre : List Pc} (hp : pre <+: T.list) : 0 ≤ sB pre ∧ sB pre ≤ 2251799813685248 ∧ 0 ≤ sL pre ∧ sL pre ≤ 2251799813685248 := by
  rw [List.prefix_iff_eq_take.1 hp]
  exact sB_bounds ((Tr.fine_list T).1 hf) _

theorem via {α : Type} {R : Prop} (Q : α → Prop) (x : α) (f : Q x → R) (h : Q x) : R := f h
theorem whole_bounds {T : Tr} (hT : T.whole) (hz : T.size ≤ 100000) : (2 : Int) ^ T.ht ≤ ((T.size : Int) + 1) * ((T.size : Int) + 1) ∧ T.ht ≤ 40 ∧ ((T.size : Int) + 1) * ((T.size : Int) + 1) ≤ 20000000000 := by
  have h1 := Tr.whole_low hT
  have h2 : (T.size + 1) * (T.size + 1) ≤ 100001 * 100001 := Nat.mul_le_mul (by omega) (by omega)
  have h3 : T.ht ≤ 40 := by
    by_cases h : T.ht ≤ 40
    · exact h
    · have : 2 ^ 40 ≤ 2 ^ T.ht := Nat.pow_le_pow_right (by omega) (by omega)
      omega
  rw [show ((T.size : Int) + 1) = ((T.size + 1 : Nat) : Int) from by omega, ← Int.natCast_mul]
  refine ⟨?_, h3, ?_⟩
  · rw [show (2 : Int) ^ T.ht = ((2 ^ T.ht : Nat) : Int) from by rw [Int.natCast_pow]; rfl]
    exact Int.ofNat_le.2 h1
  · omega

set_option maxRecDepth 100000 in
set_option maxHeartbeats 4000000 in
theorem whole_any (T : Tr) (a ao : Option Addr) (n c : Nat) (w : World) (hT : Hid T.whole) (hf : Hid T.fine) (hz : T.size ≤ 100000) (hA : Hid (At w T a)) (hr : Hid (Rdb w (.slice ao n c) T.list)) :
    Calls Try.prog 20 #[.agg #[.pointer a], .slice ao n c] w fun e w' => e = .returned (.bool true) ∧ Below w.heap.size w w' := by
  have hn : n = T.size := by obtain ⟨_, _, _, e, h2, _⟩ := hr.out; simp at e; rw [e.2.1, h2, T.size_list]
  subst hn
  refine (callsIn_wide (n := 9)).1 ?_
  refine callsIn_of_wp_marks Try.func20 rfl trivial ?_ rfl
  simp only [Try.ntmps20, List.size_toArray, List.length_cons, List.length_nil, Nat.reduceAdd, Nat.reduceSub, Array.replicate_succ, Array.replicate_zero, List.push_toArray, List.append_toArray, List.nil_append, List.cons_append]
  refine wpIn_wide.2 ?_
  have HZ : Hid (T.size ≤ 2097152) := (by omega : T.size ≤ 2097152)
  have hA1 : Hid (At (((w.alloc (.cells #[.pointer a] 26)).alloc (.cells #[.slice ao T.size c] 33)).alloc (.cells #[.bool false] 4)) T a) := ((hA.out.alloc _).alloc _).alloc _
  go_wp2_with fail
  refine (Rows_any T a _ HZ hA1).mono ?_
  rintro e w2 ⟨a9, c9, rfl, hown, hb2⟩
  have WH : Hid (Wh w (w2.alloc (.cells #[.int .i64 (T.size : Int)] 3)) w2.heap.size a ao T.size c T T.list) := by
    have k1 := bAlloc (Below.refl _ w) (.cells #[.pointer a] 26)
    have k2 := bAlloc (Below.refl _ (w.alloc (.cells #[.pointer a] 26))) (.cells #[.slice ao T.size c] 33)
    have k3 := bAlloc (Below.refl _ ((w.alloc (.cells #[.pointer a] 26)).alloc (.cells #[.slice ao T.size c] 33))) (.cells #[.bool false] 4)
    have k4 := bAlloc (Below.refl _ w2) (.cells #[.int .i64 (T.size : Int)] 3)
    have k24 := Rk.bT hb2 k4
    refine ⟨(((Rk.Box.new w (.pointer a) 26).keep k2).keep k3).keep k24, ?_, ?_, Rk.Box.new w2 _ _, (hA1.out.keep k24), hr.out.keep (Rk.bT (Rk.bT (Rk.bT k1 k2) k3) k24), Rk.bT (Rk.bT (Rk.bT k1 k2) k3) k24⟩
    · have := (Rk.Box.new (w.alloc (.cells #[.pointer a] 26)) (.slice ao T.size c) 33).keep k3
      simp only [World.size_alloc] at this
      exact this.keep k24
    · have := Rk.Box.new ((w.alloc (.cells #[.pointer a] 26)).alloc (.cells #[.slice ao T.size c] 33)) (.bool false) 4
      simp only [World.size_alloc] at this
      exact this.keep k24
  have RO : Hid (Rdr (w2.alloc (.cells #[.int .i64 (T.size : Int)] 3)) (.slice a9 T.size c9) (rowsT T)) := own_rdr (hown.alloc _)
  have c1 : w2.cell? ⟨w.heap.size + 1, 0, none⟩ = some (.slice ao T.size c) := by
    have := (((Rk.Box.new (w.alloc (.cells #[.pointer a] 26)) (.slice ao T.size c) 33).keep (bAlloc (Below.refl _ _) (.cells #[.bool false] 4))).keep hb2).cell.1
    rwa [World.size_alloc] at this
  clear hown hb2 hA1 hA hr
  obtain ⟨w3, hw3⟩ : ∃ w3, w2.alloc (.cells #[.int .i64 (T.size : Int)] 3) = w3 := ⟨_, rfl⟩
  go_wp2
  clear c1
  rw [hw3] at WH RO
  generalize w2.heap.size = bn at *
  clear hw3
  have HC : Hid (∀ W, Below w3.heap.size w3 W → Calls Try.prog 37 #[.slice a9 T.size c9] W fun e w' => e = .returned (.int .i64 0) ∧ Below W.heap.size W w') := fun W hW => by
    have h := Check_any (rowsT T) _ W (by rw [rowsT_length]; omega) (RO.out.keep hW)
    rw [checkB_rows hT.out hf.out, if_pos rfl] at h
    exact h
  have HN : Hid (∀ W, Below w3.heap.size w3 W → Calls Try.prog 19 #[.agg #[.pointer a]] W fun e w' => e = .returned (.int .i64 (T.size : Int)) ∧ Below W.heap.size W w') := fun W hW => by
    refine (Len_any T a W (WH.out.tree.keep hW)).mono ?_
    rintro e w' ⟨rfl, rfl⟩
    exact ⟨rfl, bAlloc (Below.refl _ _) _⟩
  obtain ⟨c0, -⟩ := WH.out.bt.cell
  obtain ⟨c1, -⟩ := WH.out.bn.cell
  go_region_held3 (fun w' => w'.cell? ⟨w.heap.size, 0, none⟩ = some (.pointer a) ∧ w'.cell? ⟨bn, 0, none⟩ = some (.int .i64 (T.size : Int))) (first | assumption | simp [*, go_sem])
    (first | (go_at_call 37; refine (HC.out _ (Below.refl _ _).drew).mono ?_; rintro e4 w4 ⟨rfl, hb4⟩; have W4 := hid (WH.out.below (bD2 hb4)); have B4 := hid (bD2 hb4); clear hb4 c0 c1; obtain ⟨c0, -⟩ := W4.out.bt.cell; obtain ⟨c1, -⟩ := W4.out.bn.cell)
           | (go_at_call 19; refine (HN.out _ B4.out).mono ?_; rintro e5 w5 ⟨rfl, hb5⟩; have W5 := hid (W4.out.below hb5); clear hb5 c0 c1; obtain ⟨c0, -⟩ := W5.out.bt.cell; obtain ⟨c1, -⟩ := W5.out.bn.cell))
  clear HC HN RO WH W4 B4
  have HP := hid (whole_bounds hT.out hz)
  go_wp2_with fail
  refine (Height_any T a _ W5.out.tree).mono ?_
  rintro e w6 ⟨rfl, hw6⟩
  have W6 : Hid (Wh w w6 bn a ao T.size c T T.list) := by rw [hw6]; exact W5.out.below (bAlloc (Below.refl _ _) _)
  clear hw6 W5 c0 c1
  obtain ⟨c0, -⟩ := W6.out.bt.cell
  obtain ⟨c1, -⟩ := W6.out.bn.cell
  obtain ⟨p1, p2, p3⟩ := HP.out
  have p4 : (0 : Int) ≤ ((T.ht : Nat) : Int) := by omega
  have p5 : ((T.ht : Nat) : Int) ≤ 40 := by omega
  have p6 : decide (((T.ht : Nat) : Int) > 40) = false := by simp; omega
  have p7 : decide (((T.ht : Nat) : Int) < 0) = false := by simp
  have p8 : IntKind.i64.wrap ((2 : Int) ^ T.ht) = (2 : Int) ^ T.ht := i64_in2 (by have := Int.pow_pos (n := 2) (m := T.ht) (by omega); omega) (by omega)
  have p9 : IntKind.i64.wrap ((T.size : Int) + 1) = (T.size : Int) + 1 := i64_in2 (by omega) (by omega)
  have p10 : IntKind.i64.wrap (((T.size : Int) + 1) * ((T.size : Int) + 1)) = ((T.size : Int) + 1) * ((T.size : Int) + 1) := i64_in2 (by have := Int.pow_pos (n := 2) (m := T.ht) (by omega); omega) (by omega)
  have p11 : decide ((2 : Int) ^ T.ht > ((T.size : Int) + 1) * ((T.size : Int) + 1)) = false := by simp; omega
  go_wp2_with fail
  go_region_held3 (fun w' => w'.cell? ⟨w.heap.size, 0, none⟩ = some (.pointer a) ∧ w'.cell? ⟨bn, 0, none⟩ = some (.int .i64 (T.size : Int))) (first | assumption | simp [*, go_sem]) (fail)
  have W7 : Hid (Wh w w6.drew bn a ao T.size c T T.list) := W6.out.below (Below.refl _ _).drew
  clear p1 p2 p3 p4 p5 p6 p7 p8 p9 p10 p11 HP c0 c1 W6
  generalize w6.drew = V at *
  generalize (2 : Int) ^ T.ht = y1
  generalize ((T.size : Int) + 1) * ((T.size : Int) + 1) = y2
  generalize ((T.size : Int) + 1) = y3
  obtain ⟨c0, -⟩ := W7.out.bt.cell
  obtain ⟨c1, -⟩ := W7.out.bn.cell
  have hw7 : w.heap.size < V.heap.size := W7.out.bt.lt
  have c0' : ((((V.alloc (.cells #[.int .i64 0] 3)).alloc (.cells #[.int .i64 0] 3)).alloc (.cells #[.int .i64 0] 3))).cell? ⟨w.heap.size, 0, none⟩ = some (.pointer a) := (((W7.out.bt.keep (bAlloc (Below.refl _ _) _)).keep (bAlloc (Below.refl _ _) _)).keep (bAlloc (Below.refl _ _) _)).cell.1
  go_wp2_with fail
  refine (all_any a _).mono ?_
  rintro e w8 ⟨rfl, hw8⟩
  subst hw8
  clear c0 c1 c0'
  go_wp2
  have hs8 : ((((V.alloc (.cells #[.int .i64 0] 3)).alloc (.cells #[.int .i64 0] 3)).alloc (.cells #[.int .i64 0] 3)).alloc (.cells #[.pointer a] 26)).heap.size = V.heap.size + 4 := by simp
  have hI0 : R3 V 0 0 0 ((((V.alloc (.cells #[.int .i64 0] 3)).alloc (.cells #[.int .i64 0] 3)).alloc (.cells #[.int .i64 0] 3)).alloc (.cells #[.pointer a] 26)) := by
    have k1 := bAlloc (Below.refl _ V) (.cells #[.int .i64 0] 3)
    have k2 := bAlloc (Below.refl _ (V.alloc (.cells #[.int .i64 0] 3))) (.cells #[.int .i64 0] 3)
    have k3 := bAlloc (Below.refl _ ((V.alloc (.cells #[.int .i64 0] 3)).alloc (.cells #[.int .i64 0] 3))) (.cells #[.int .i64 0] 3)
    have k4 := bAlloc (Below.refl _ (((V.alloc (.cells #[.int .i64 0] 3)).alloc (.cells #[.int .i64 0] 3)).alloc (.cells #[.int .i64 0] 3))) (.cells #[.pointer a] 26)
    refine ⟨Rk.bT (Rk.bT (Rk.bT k1 k2) k3) k4, (((Rk.Box.new V _ 3).keep k2).keep k3).keep k4, ?_, ?_⟩
    · have := (((Rk.Box.new (V.alloc (.cells #[.int .i64 0] 3)) (.int .i64 0) 3).keep k3).keep k4)
      rwa [World.size_alloc] at this
    · have := (Rk.Box.new ((V.alloc (.cells #[.int .i64 0] 3)).alloc (.cells #[.int .i64 0] 3)) (.int .i64 0) 3).keep k4
      rwa [World.size_alloc, World.size_alloc] at this
  have hB0 : Rk.Box ((((V.alloc (.cells #[.int .i64 0] 3)).alloc (.cells #[.int .i64 0] 3)).alloc (.cells #[.int .i64 0] 3)).alloc (.cells #[.pointer a] 26)) (V.heap.size + 1 + 1 + 1) (.pointer a) 26 := by
    have := Rk.Box.new (((V.alloc (.cells #[.int .i64 0] 3)).alloc (.cells #[.int .i64 0] 3)).alloc (.cells #[.int .i64 0] 3)) (.pointer a) 26
    rwa [World.size_alloc, World.size_alloc, World.size_alloc] at this
  generalize hV4 : (((V.alloc (.cells #[.int .i64 0] 3)).alloc (.cells #[.int .i64 0] 3)).alloc (.cells #[.int .i64 0] 3)).alloc (.cells #[.pointer a] 26) = V4 at *
  refine (wpIn_wide (n := 9)).1 ?_
  generalize ha₀ : Act.mk _ _ = a₀
  refine wpIn_ring (F := Fence.wide) rfl rfl (by rw [← ha₀]; rfl) trivial (enters_of Try.func65 (by kernel_rfl) rfl)
    (all_seq (fun k => k < V.heap.size) V T a (V.heap.size + 1 + 1 + 1) V4 W7.out.tree (fun b cs hb => (Array.getElem?_eq_some_iff.1 hb).1) (fun k hk _ => hI0.bel.block k hk) (by rw [hs8]; omega) hB0 (by omega)) (Below.refl _ _) (fun k hk => by rw [hs8]; omega) (fun _ _ => rfl)
    (fun pre W => R3 V (pre.length : Int) (sB pre) (sL pre) W) (fun _ _ _ => False)
    (fun s A B h hk => h.stab (by rw [hs8] at hk; exact hk)) (fun c s A B h hk => h) hI0
    (fun pre p a' W => ∃ Bx, W.heap[Bx]? = some (.cells #[.int .i64 p.s, .int .i64 p.o, .int .i64 p.l, .int .i64 p.n] 32 (0, 0)) ∧ V.heap.size + 4 + 4 ≤ Bx ∧ a' = { tmps := (((a₀.tmps.setIfInBounds 52 (.int .i64 (pre.length : Int))).setIfInBounds 53 p.v).setIfInBounds 11 (.int .i64 (pre.length : Int))).setIfInBounds 12 (.pointer (some ⟨Bx, 0, none⟩)), defers := [] })
    ?hAx ?assign ?body ?done (fun _ _ _ _ h _ => h.elim)
  case hAx =>
    rintro pre p a' ⟨⟩ A B ⟨Bx, h1, h2, h3⟩ hk
    rw [hs8] at hk
    exact ⟨Bx, (hk.block _ (Array.getElem?_eq_some_iff.1 h1).1 (by omega)).trans h1, h2, h3⟩
  case assign =>
    rintro l pre ⟨s, o, len, nn⟩ W K hi hbig hpre hK
    subst ha₀
    simp only [Pc.v] at hK ⊢
    have HK := hid hK
    clear hK
    gi_wp2
    rw [hs8] at hbig
    refine HK.out _ _ (Rnd.alloc _ _ _ _ _) (hi.below (bAlloc (Below.refl _ _) _)) ⟨W.heap.size, heap_alloc_new _ _, by omega, ?as6⟩
    case as6 => simp only [List.setIfInBounds_toArray, List.set_cons_zero, List.set_cons_succ]
  case body =>
    rintro l pre ⟨s, o, len, nn⟩ a' W rfl ⟨r, hr⟩ hI hbig ⟨Bx, hx, hBx, rfl⟩ hpre
    subst ha₀
    rw [hs8] at hbig
    clear hr
    have hpl : pre.length < T.size := by have := hpre.length_le; rw [T.size_list] at this; simp at this; omega
    have hget := pre_at hpre
    have WW := hid (W7.out.below hI.bel)
    obtain ⟨e0, e1, e2, e3⟩ := cells4 hx
    obtain ⟨d1, g1⟩ := hI.c1.cell
    obtain ⟨d2, g2⟩ := hI.c2.cell
    obtain ⟨d3, g3⟩ := hI.c3.cell
    obtain ⟨d4, -⟩ := WW.out.bn.cell
    obtain ⟨d5, -⟩ := WW.out.bl.cell
    have hrow : ∃ b off, ao = some ⟨b, off, none⟩ ∧ Row W b off T.list := by
      obtain ⟨_, _, _, e, q2, q3, q4⟩ := WW.out.rd
      simp at e
      obtain ⟨rfl, -, -⟩ := e
      rcases q4 with q4 | ⟨b, off, rfl, q4⟩
      · rw [q4] at hget; simp at hget
      · exact ⟨b, off, rfl, q4⟩
    obtain ⟨b, off, rfl, hrw⟩ := hrow
    obtain ⟨f0, f1, f2, f3⟩ := row4 hrw hget
    have hP := pre_sums hf.out (List.IsPrefix.trans (List.prefix_append _ _) hpre)
    have hP2 := pre_sums hf.out hpre
    rw [sB_append, sL_append] at hP2
    rw [show sB [(⟨s, o, len, nn⟩ : Pc)] = len from by simp [sB], show sL [(⟨s, o, len, nn⟩ : Pc)] = nn from by simp [sL]] at hP2
    have HI := hid hI
    have r1 : decide ((pre.length : Int) ≥ (T.size : Int)) = false := by simp; omega
    have r2 : (0 : Int) ≤ (pre.length : Int) := by omega
    have r3 : (pre.length : Int) < (T.size : Int) := by omega
    clear hI hx hrw hV4 hI0 hB0 WW HZ
    simp only [Pc.v, List.setIfInBounds_toArray, List.set_cons_zero, List.set_cons_succ] at *
    gi_wp2
    generalize hQ : Exit.then _ _ = Q
    apply via (fun A => Q .normal A W.drew)
    · intro hK
      gi_region
      all_goals exact hK
    subst hQ
    have n1 : ¬ Bx = V.heap.size := by omega
    have n2 : ¬ Bx = V.heap.size + 1 := by omega
    have n3 : ¬ Bx = V.heap.size + 1 + 1 := by omega
    have n4 : ¬ V.heap.size = Bx := by omega
    have n5 : ¬ V.heap.size + 1 = Bx := by omega
    have n6 : ¬ V.heap.size + 1 + 1 = Bx := by omega
    have u1 : IntKind.i64.wrap (sB pre + len) = sB pre + len := i64_in2 (by omega) (by omega)
    have u2 : IntKind.i64.wrap (sL pre + nn) = sL pre + nn := i64_in2 (by omega) (by omega)
    have u3 : IntKind.i64.wrap ((pre.length : Int) + 1) = (pre.length : Int) + 1 := i64_in2 (by omega) (by omega)
    have ST := hid ((HI.out.below (Below.refl _ _).drew).step ((pre.length : Int) + 1) (sB pre + len) (sL pre + nn) (V.heap.size + 4 + 2 + 2))
    clear HI W7 hP hP2 r1 r2 r3 hget hpre
    gi_wp2
    rw [hs8]
    refine ⟨(Rnd.of_below (Below.refl W.heap.size W).drew (fun k hk => by omega) (by omega)).trans ST.out.2, ?_⟩
    show R3 V ((pre ++ [_]).length : Int) (sB (pre ++ [_])) (sL (pre ++ [_])) _
    rw [List.length_append, sB_append, sL_append, show sB [(⟨s, o, len, nn⟩ : Pc)] = len from by simp [sB], show sL [(⟨s, o, len, nn⟩ : Pc)] = nn from by simp [sL]]
    exact ST.out.1
  case done =>
    rintro W hI hD
    rw [hs8] at hD ⊢
    subst ha₀
    have hb : sB T.list = T.byt := (byt_list T).symm
    have hl : sL T.list = T.lin := (lin_list T).symm
    rw [T.size_list, hb, hl] at hI
    have WW := hid (W7.out.below hI.bel)
    have HD := hid hD
    have HI := hid hI
    have HBy : Hid (∀ W', Below W.heap.size W W' → Calls Try.prog 52 #[.agg #[.pointer a]] W' fun e w' => e = .returned (.int .i64 T.byt) ∧ Below W'.heap.size W' w') := fun W' hW => by
      refine (Bytes_any T a W' (WW.out.tree.keep hW)).mono ?_
      rintro e w' ⟨rfl, rfl⟩
      exact ⟨rfl, bAlloc (Below.refl _ _) _⟩
    have HLi : Hid (∀ W', Below W.heap.size W W' → Calls Try.prog 63 #[.agg #[.pointer a]] W' fun e w' => e = .returned (.int .i64 T.lin) ∧ Below W'.heap.size W' w') := fun W' hW => by
      refine (Lines_any T a W' (WW.out.tree.keep hW)).mono ?_
      rintro e w' ⟨rfl, rfl⟩
      exact ⟨rfl, bAlloc (Below.refl _ _) _⟩
    obtain ⟨d0, -⟩ := WW.out.bt.cell
    obtain ⟨d1, -⟩ := hI.c1.cell
    obtain ⟨d2, -⟩ := hI.c2.cell
    obtain ⟨d3, -⟩ := hI.c3.cell
    obtain ⟨d4, -⟩ := WW.out.bn.cell
    obtain ⟨d5, g5⟩ := WW.out.br.cell
    clear hI hD hI0 hB0 hV4 HZ
    have hbn : bn < V.heap.size := W7.out.bn.lt
    have hbr : w.heap.size + 1 + 1 < V.heap.size := W7.out.br.lt
    have m1 : ¬ V.heap.size = w.heap.size + 1 + 1 := by omega
    have m2 : ¬ V.heap.size + 1 = w.heap.size + 1 + 1 := by omega
    have m3 : ¬ V.heap.size + 1 + 1 = w.heap.size + 1 + 1 := by omega
    have m4 : ¬ w.heap.size = w.heap.size + 1 + 1 := by omega
    have m5 : ¬ bn = w.heap.size + 1 + 1 := by
      intro e
      rw [e, d5] at d4
      simp at d4
    go_wp2_with fail
    go_region_held3 (fun w' => w'.cell? ⟨w.heap.size, 0, none⟩ = some (.pointer a) ∧ w'.cell? ⟨V.heap.size, 0, none⟩ = some (.int .i64 (T.size : Int)) ∧ w'.cell? ⟨V.heap.size + 1, 0, none⟩ = some (.int .i64 T.byt) ∧ w'.cell? ⟨V.heap.size + 1 + 1, 0, none⟩ = some (.int .i64 T.lin) ∧ w'.cell? ⟨bn, 0, none⟩ = some (.int .i64 (T.size : Int)) ∧ w'.frozen? ⟨w.heap.size + 1 + 1, 0, none⟩ = false) (first | assumption | simp [*, go_sem])
      (first | (go_at_call 52; refine (HBy.out _ (Below.refl _ _).drew).mono ?_; rintro e4 w4 ⟨rfl, hb4⟩; have B4 := hid (bD2 hb4); have W4 := hid (WW.out.below B4.out); have I4 := hid (HI.out.below B4.out); clear hb4 d0 d1 d2 d3 d4 d5 g5; obtain ⟨d0, -⟩ := W4.out.bt.cell; obtain ⟨d1, -⟩ := I4.out.c1.cell; obtain ⟨d2, -⟩ := I4.out.c2.cell; obtain ⟨d3, -⟩ := I4.out.c3.cell; obtain ⟨d4, -⟩ := W4.out.bn.cell; obtain ⟨d5, g5⟩ := W4.out.br.cell)
             | (go_at_call 63; refine (HLi.out _ B4.out).mono ?_; rintro e5 w5 ⟨rfl, hb5⟩; have B5 := hid (Rk.bT B4.out hb5); have W5 := hid (WW.out.below B5.out); have I5 := hid (HI.out.below B5.out); clear hb5 d0 d1 d2 d3 d4 d5 g5; obtain ⟨d0, -⟩ := W5.out.bt.cell; obtain ⟨d1, -⟩ := I5.out.c1.cell; obtain ⟨d2, -⟩ := I5.out.c2.cell; obtain ⟨d3, -⟩ := I5.out.c3.cell; obtain ⟨d4, -⟩ := W5.out.bn.cell; obtain ⟨d5, g5⟩ := W5.out.br.cell))
    have hD5 : w5.heap[V.heap.size + 4]? = some (.deferred (some [])) := (B5.out.block _ (Array.getElem?_eq_some_iff.1 HD.out).1).trans HD.out
    have HD5 := hid hD5
    clear hD5 HD HBy HLi I4 W4 d0 d1 d2 d3 d4 d5 g5
    go_wp2
    have hD1 : (w5.setCell ⟨w.heap.size + 1 + 1, 0, none⟩ (.bool true)).heap[V.heap.size + 4]? = some (.deferred (some [])) := (Below.heap_setCell _ _ _ _ (by simp; omega)).trans HD5.out
    refine ⟨by simp, .inl ⟨_, _, rfl, run_takeDeferred hD1, ?_⟩⟩
    refine ⟨_, results20 rfl (x := true) ?res, rfl, ?bel⟩
    case res =>
      have h1 := W5.out.br.cellset (.bool true)
      unfold Rk.Box at h1 ⊢
      rw [World.putObj_heap_other (by omega)]
      exact h1
    case bel =>
      have h1 : Below w.heap.size w (w5.setCell ⟨w.heap.size + 1 + 1, 0, none⟩ (.bool true)) := W5.out.bel.setCell (by simp; omega) _
      refine h1.trans ⟨rfl, rfl, rfl, by simp, fun k hk => ?_⟩
      rw [World.putObj_heap_other (by omega)]
end Go.Proofs.Ytpifjghhlcjedaa
