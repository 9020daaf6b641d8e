/- The law's sameRows (of shade): two lists of the same rows. -/
import Derived.Test.YtmhpeppbhjpkiaaGreatPm06
import Derived.Test.YtmhpeppbhjpkiaaGreatPm31
import Derived.Test.YtmhpeppbhjpkiaaGreatPm34
import Derived.Test.YtmhpeppbhjpkiaaGreatPm21
import Derived.Test.YtmhpeppbhjpkiaaGreatPm29
namespace Go.Proofs.YtmhpeppbhjpkiaaGreat
open Go.RowKit

theorem rcells_atS {L : List Rw} {m : Nat} {r : Rw} (h : L[m]? = some r) (i : Nat) (hi : i < 10) : (rcells L)[m * 10 + i]? = r.cs[i]? := by
  have hlt := (List.getElem?_eq_some_iff.1 h).1
  have e : L = L.take m ++ r :: L.drop (m + 1) := by
    conv => lhs; rw [← List.take_append_drop m L]
    rw [List.drop_eq_getElem_cons hlt]
    obtain ⟨_, e⟩ := List.getElem?_eq_some_iff.1 h
    rw [e]
  have l1 : (rcells (L.take m)).length = m * 10 := by rw [rcells_length, List.length_take]; omega
  conv => lhs; rw [e]
  unfold rcells at l1 ⊢
  rw [List.flatMap_append, List.getElem?_append_right (by omega), l1, List.flatMap_cons, List.getElem?_append_left (by simp [Rw.cs]; omega)]
  congr 1
  omega

/-- the ten cells of row number m -/
structure Ten (w : World) (g m : Nat) (r : Rw) : Prop where
  c0 : w.cell? ⟨g, m * 10, none⟩ = some (.int .i64 r.p.s)
  c1 : w.cell? ⟨g, m * 10 + 1, none⟩ = some (.int .i64 r.p.o)
  c2 : w.cell? ⟨g, m * 10 + 2, none⟩ = some (.int .i64 r.p.l)
  c3 : w.cell? ⟨g, m * 10 + 3, none⟩ = some (.int .i64 r.p.n)
  c4 : w.cell? ⟨g, m * 10 + 4, none⟩ = some (.bool r.red)
  c5 : w.cell? ⟨g, m * 10 + 5, none⟩ = some (.bool r.left)
  c6 : w.cell? ⟨g, m * 10 + 6, none⟩ = some (.bool r.right)
  c7 : w.cell? ⟨g, m * 10 + 7, none⟩ = some (.int .i64 r.cnt)
  c8 : w.cell? ⟨g, m * 10 + 8, none⟩ = some (.int .i64 r.byt)
  c9 : w.cell? ⟨g, m * 10 + 9, none⟩ = some (.int .i64 r.lin)

theorem own_ten {w : World} {B n c : Nat} {ao : Option Addr} {L : List Rw} {m : Nat} {r : Rw} (h : w.ownsRow B 128 10 (.slice ao n c) n (rcells L)) (hp : L[m]? = some r) (hn : L.length = n) :
    ∃ g, ao = some ⟨g, 0, none⟩ ∧ Ten w g m r := by
  have hlt := (List.getElem?_eq_some_iff.1 hp).1
  rcases h.2 with ⟨_, h0⟩ | ⟨g, cap, cur, e, _⟩
  · omega
  · cases e
    have hc := fun i (hi : i < 10) => (h.cellAt (m * 10 + i) (by omega)).trans (rcells_atS hp i hi)
    exact ⟨g, rfl, by simpa [Rw.cs] using hc 0 (by omega), by simpa [Rw.cs] using hc 1 (by omega), by simpa [Rw.cs] using hc 2 (by omega), by simpa [Rw.cs] using hc 3 (by omega), by simpa [Rw.cs] using hc 4 (by omega), by simpa [Rw.cs] using hc 5 (by omega), by simpa [Rw.cs] using hc 6 (by omega), by simpa [Rw.cs] using hc 7 (by omega), by simpa [Rw.cs] using hc 8 (by omega), by simpa [Rw.cs] using hc 9 (by omega)⟩

end Go.Proofs.YtmhpeppbhjpkiaaGreat

/- The reference's sheet: its piece. -/
namespace Go.Proofs.YtmhpeppbhjpkiaaGreat
open Go.RowKit

/-- rows that a call gives, read -/
theorem rw_rdr {w W : World} {l : Value} {T : Tr} (h : Rw1 w T l W) : Rdr W l (rowsT T) := by
  rcases h.2 with ⟨rfl, h0⟩ | ⟨g, cap, cur, rfl, _, hg, hc, _⟩
  · refine ⟨none, 0, 0, rfl, by rw [rowsT_length, h0], Nat.le_refl _, .inl (List.eq_nil_of_length_eq_zero (by rw [rowsT_length, h0]))⟩
  · refine ⟨some ⟨g, 0, none⟩, T.size, cap, rfl, (rowsT_length T).symm, hc, .inr ⟨g, 0, rfl, ?_⟩⟩
    intro j x hj
    have hlt : j < T.size := by rw [← rowsT_length]; exact (List.getElem?_eq_some_iff.1 hj).1
    have hc : ∀ i, i < 10 → W.cell? ⟨g, 0 + j * 10 + i, none⟩ = x.cs[i]? := fun i hi => by
      rw [Nat.zero_add, h.cellAt (j * 10 + i) (by omega), rcells_atS hj i hi]
    obtain ⟨⟨ps, po, pl, pn⟩, r0, r1, r2, r3, r4, r5⟩ := x
    exact ⟨hc 0 (by omega), hc 1 (by omega), hc 2 (by omega), hc 3 (by omega), hc 4 (by omega), hc 5 (by omega), hc 6 (by omega), hc 7 (by omega), hc 8 (by omega), hc 9 (by omega)⟩
/-- rows that are read, in a block that P tells -/
def Rdq (W : World) (P : Nat → Prop) (v : Value) (L : List Rw) : Prop := ∃ ao n c, v = .slice ao n c ∧ n = L.length ∧ n ≤ c ∧ (L = [] ∨ ∃ b off, ao = some ⟨b, off, none⟩ ∧ RowR W b off L ∧ P b)
theorem Rdq.rdr {W : World} {P : Nat → Prop} {v : Value} {L : List Rw} (h : Rdq W P v L) : Rdr W v L := by
  obtain ⟨ao, n, c, h1, h2, h3, h4⟩ := h
  refine ⟨ao, n, c, h1, h2, h3, ?_⟩
  rcases h4 with h4 | ⟨b, off, e, h, _⟩
  · exact .inl h4
  · exact .inr ⟨b, off, e, h⟩
theorem Rdq.keep {W W' : World} {P : Nat → Prop} {v : Value} {L : List Rw} (h : Rdq W P v L) (hb : Below W.heap.size W W') : Rdq W' P v L := by
  obtain ⟨ao, n, c, h1, h2, h3, h4⟩ := h
  refine ⟨ao, n, c, h1, h2, h3, ?_⟩
  rcases h4 with h4 | ⟨b, off, e, h, hp⟩
  · exact .inl h4
  · exact .inr ⟨b, off, e, h.keep hb, hp⟩
theorem Rdq.mono {W : World} {P Q : Nat → Prop} {v : Value} {L : List Rw} (h : Rdq W P v L) (hq : ∀ b, P b → Q b) : Rdq W Q v L := by
  obtain ⟨ao, n, c, h1, h2, h3, h4⟩ := h
  refine ⟨ao, n, c, h1, h2, h3, ?_⟩
  rcases h4 with h4 | ⟨b, off, e, h, hp⟩
  · exact .inl h4
  · exact .inr ⟨b, off, e, h, hq b hp⟩
/-- what leaves these blocks alone leaves the rows alone -/
theorem Rdq.same {W W' : World} {P : Nat → Prop} {v : Value} {L : List Rw} (h : Rdq W P v L) (hs : ∀ b, P b → b < W.heap.size → W'.heap[b]? = W.heap[b]?) : Rdq W' P v L := by
  obtain ⟨ao, n, c, h1, h2, h3, h4⟩ := h
  refine ⟨ao, n, c, h1, h2, h3, ?_⟩
  rcases h4 with h4 | ⟨b, off, e, h, hp⟩
  · exact .inl h4
  · refine .inr ⟨b, off, e, ?_, hp⟩
    intro j x hj
    have hx := h j x hj
    have hlt : b < W.heap.size := cell_lt hx.1
    have he : ∀ o, W'.cell? ⟨b, o, none⟩ = W.cell? ⟨b, o, none⟩ := fun o => by simp only [World.cell?, hs b hp hlt]
    simp only [he]
    exact hx
theorem Rdq.set {W : World} {P : Nat → Prop} {v : Value} {L : List Rw} (h : Rdq W P v L) {g j : Nat} {u : Value} (hg : ¬ P g) : Rdq (W.setCell ⟨g, j, none⟩ u) P v L :=
  h.same fun b hb _ => Below.heap_setCell _ _ _ _ (fun e => hg (by have e' : b = g := e; rw [← e']; exact hb))
/-- rows that were there, or are new since w -/
def Rq (w W : World) (P : Nat → Prop) (v : Value) (L : List Rw) : Prop := Rdq W (fun b => P b ∨ (w.heap.size ≤ b ∧ b < W.heap.size)) v L
theorem Rq.keep {w W W' : World} {P : Nat → Prop} {v : Value} {L : List Rw} (h : Rq w W P v L) (hb : Below W.heap.size W W') : Rq w W' P v L :=
  (Rdq.keep h hb).mono fun b hb' => by rcases hb' with h | h; exact .inl h; exact .inr ⟨h.1, by have := hb.size; omega⟩
theorem Rdq.rq {w W : World} {P : Nat → Prop} {v : Value} {L : List Rw} (h : Rdq w P v L) (hb : Below w.heap.size w W) : Rq w W P v L := (h.keep hb).mono fun _ h => .inl h
theorem rw_rq {w w1 W : World} {P : Nat → Prop} {l : Value} {T : Tr} (h : Rw1 w1 T l W) (hz : w.heap.size ≤ w1.heap.size) : Rq w W P l (rowsT T) := by
  have hr := rw_rdr h
  obtain ⟨ao, n, c, h1, h2, h3, h4⟩ := hr
  refine ⟨ao, n, c, h1, h2, h3, ?_⟩
  rcases h4 with h4 | ⟨b, off, e, hh⟩
  · exact .inl h4
  · refine .inr ⟨b, off, e, hh, .inr ?_⟩
    have := h.lt b (by rw [h1, e]; rfl)
    omega
theorem rq_nil (w W : World) (P : Nat → Prop) : Rq w W P (.slice none 0 0) (rowsT (Tr.mk none)) := ⟨none, 0, 0, rfl, rfl, Nat.le_refl _, .inl rfl⟩
/-- a sheet of the reference's as a value -/
def kv (a0 : Option Addr) (c0 : Nat) (a1 : Option Addr) (c1 : Nat) (ar : Option Addr) (cr : Nat) (O A : List UInt8) (t : Tr) (E : Int) : Value := .agg #[.slice a0 O.length c0, .slice a1 A.length c1, .slice ar t.size cr, .int .i64 E]
/-- what it holds -/
structure Kr (W : World) (base : Nat) (P : Nat → Prop) (a0 : Option Addr) (c0 : Nat) (a1 : Option Addr) (c1 : Nat) (ar : Option Addr) (cr : Nat) (O A : List UInt8) (t : Tr) : Prop where
  o : W.ownsRow base 5 1 (.slice a0 O.length c0) O.length (Ab.bv O)
  a : W.ownsRow base 5 1 (.slice a1 A.length c1) A.length (Ab.bv A)
  r : Rdq W P (.slice ar t.size cr) (rowsT t)
theorem Kr.keep {W W' : World} {base : Nat} {P : Nat → Prop} {a0 : Option Addr} {c0 : Nat} {a1 : Option Addr} {c1 : Nat} {ar : Option Addr} {cr : Nat} {O A : List UInt8} {t : Tr} (h : Kr W base P a0 c0 a1 c1 ar cr O A t) (hb : Below W.heap.size W W') : Kr W' base P a0 c0 a1 c1 ar cr O A t :=
  ⟨Ab.own_keep h.o hb, Ab.own_keep h.a hb, h.r.keep hb⟩
set_option maxRecDepth 8000 in
set_option maxHeartbeats 2000000 in
theorem rpiece_any (a0 a1 ar : Option Addr) (c0 c1 nr cr : Nat) (E : Int) (O A : List UInt8) (base : Nat) (s o l : Int) (w : World) (h1 : -9223372036854775808 ≤ o) (h2 : o ≤ 9223372036854775807) (hbig : (Ab.which s O A).length ≤ 4398046511104)
    (hO : Hid (w.ownsRow base 5 1 (.slice a0 O.length c0) O.length (Ab.bv O))) (hA : Hid (w.ownsRow base 5 1 (.slice a1 A.length c1) A.length (Ab.bv A))) :
    Calls Tryz.prog 22 #[.agg #[.slice a0 O.length c0, .slice a1 A.length c1, .slice ar nr cr, .int .i64 E], .agg #[.int .i64 s, .int .i64 o, .int .i64 l]] w fun e w' => e = .returned (.agg #[.int .i64 s, .int .i64 o, .int .i64 l, .int .i64 (Ab.lnV s o l O A)]) ∧ Below w.heap.size w w' := by
  have C := Hid.mk' (fun W (h : Below w.heap.size w W) => Ab.refLines_all a0 a1 c0 c1 O A base s o l W h1 h2 hbig (Ab.own_keep hO.out h) (Ab.own_keep hA.out h))
  generalize Ab.lnV s o l O A = LV at *
  generalize Ab.lnE s o l O A = LE at *
  go_enter Tryz.func22, Tryz.ntmps22
  go_upto_region 1 with fail
  have B1 := Hid.mk' (bAAA w (.cells #[.slice a0 O.length c0, .slice a1 A.length c1, .slice ar nr cr, .int .i64 E] 31) (.cells #[.int .i64 s, .int .i64 o, .int .i64 l] 57) (.cells #[.int .i64 0, .int .i64 0, .int .i64 0, .int .i64 0] 59))
  have K2 := Hid.mk' (Blk.new ((w.alloc (.cells #[.slice a0 O.length c0, .slice a1 A.length c1, .slice ar nr cr, .int .i64 E] 31)).alloc (.cells #[.int .i64 s, .int .i64 o, .int .i64 l] 57)) 59 #[.int .i64 0, .int .i64 0, .int .i64 0, .int .i64 0])
  have K1 := Hid.mk' ((Blk.new (w.alloc (.cells #[.slice a0 O.length c0, .slice a1 A.length c1, .slice ar nr cr, .int .i64 E] 31)) 57 #[.int .i64 s, .int .i64 o, .int .i64 l]).keep (bAlloc (Below.refl _ _) (.cells #[.int .i64 0, .int .i64 0, .int .i64 0, .int .i64 0] 59)))
  go_wp2_with fail
  refine (C.out _ B1.out).mono ?_
  rintro e w2 ⟨rfl, hb2⟩
  have J2 := K2.out.keep hb2
  have J1 := K1.out.keep hb2
  rw [World.size_alloc, World.size_alloc] at J2
  rw [World.size_alloc] at J1
  have B2 := Hid.mk' (bT B1.out hb2)
  have x0 := J1.cell (j := 0) rfl
  have x1 := J1.cell (j := 1) rfl
  have x2 := J1.cell (j := 2) rfl
  have y0 := J2.cell (j := 0) rfl
  have y1 := J2.cell (j := 1) rfl
  have y2 := J2.cell (j := 2) rfl
  have y3 := J2.cell (j := 3) rfl
  have f0 := J2.frozen 0
  have f1 := J2.frozen 1
  have f2 := J2.frozen 2
  have f3 := J2.frozen 3
  have hz := J2.lt
  clear hb2 J1 J2 K1 K2
  go_wp2
  all_goals exact bodyPost_ret (v := .agg #[.int .i64 s, .int .i64 o, .int .i64 l, .int .i64 LV]) (by simp [results, Tryz.results22, go_sem, y0, y1, y2, y3]) rfl ⟨rfl, by repeat (first | exact B2.out | refine Below.setCell ?_ (by show w.heap.size ≤ w.heap.size + 1 + 1; omega) _)⟩

end Go.Proofs.YtmhpeppbhjpkiaaGreat

/- The reference's Cut: the same trees as the program's. -/
namespace Go.Proofs.YtmhpeppbhjpkiaaGreat
open Go.RowKit

theorem gd_lnV {O A : List UInt8} {p : Pc} (h : Gd O A p) : Ab.lnV p.s p.o p.l O A = p.n := by
  unfold Ab.lnV
  rw [if_pos h.hold]
  exact h.ln.symm
theorem which_len {O A : List UInt8} (s : Int) {n : Nat} (h1 : O.length ≤ n) (h2 : A.length ≤ n) : (Ab.which s O A).length ≤ n := by
  unfold Ab.which
  split
  · exact h1
  · split
    · exact h2
    · exact Nat.zero_le _
theorem rdr_nil (w : World) : Rdr w (.slice none 0 0) (rowsT (Tr.mk none)) := ⟨none, 0, 0, rfl, rfl, Nat.le_refl _, .inl rfl⟩
theorem fit_yes {p : Pc} (h : p.fit) : fitB p.l p.n = true := (fitB_iff p.s p.o p.l p.n).2 h
theorem jnT_fit {l r : Tr} {p : Pc} (h : p.fit) : jnT l p r = Tr.joinT l p r := by unfold jnT; rw [if_pos (fit_yes h)]
theorem gdw_of {t : Tr} {O A : List UInt8} (hw : t.whole) (hg : Gds O A t.list) (hs : t.size ≤ 524287) : Gdw t := ⟨hw, (Tr.fits_list t).2 (fun p hp => (hg p hp).fit), ht_small2 hw hs⟩
theorem gdw_nil : Gdw (Tr.mk none) := ⟨nil_whole, (Tr.fits_list _).2 (fun p hp => by cases hp), by decide⟩
/-- a piece's cells -/
theorem cells_at4 : ∀ {L : List Pc} {m : Nat} {p : Pc}, L[m]? = some p → ∀ i, i < 4 → (cells L)[m * 4 + i]? = p.cs[i]?
  | [], m, p, h, i, hi => by simp at h
  | q :: L, 0, p, h, i, hi => by
    obtain rfl : q = p := by simpa using h
    show (q.cs ++ cells L)[0 * 4 + i]? = _
    rw [List.getElem?_append_left (by show 0 * 4 + i < 4; omega), Nat.zero_mul, Nat.zero_add]
  | q :: L, m + 1, p, h, i, hi => by
    have ih := cells_at4 (L := L) (m := m) (p := p) (by simpa using h) i hi
    show (q.cs ++ cells L)[(m + 1) * 4 + i]? = _
    rw [List.getElem?_append_right (by show 4 ≤ (m + 1) * 4 + i; omega)]
    show (cells L)[(m + 1) * 4 + i - 4]? = _
    rw [show (m + 1) * 4 + i - 4 = m * 4 + i from by omega]
    exact ih
theorem own_shape' {w : World} {base e size n : Nat} {v : Value} {xs : List Value} (h : w.ownsRow base e size v n xs) : ∃ ao cap, v = .slice ao n cap := by
  rcases h.2 with ⟨rfl, rfl⟩ | ⟨g, cap, cur, rfl, _⟩
  · exact ⟨_, _, rfl⟩
  · exact ⟨_, _, rfl⟩
theorem own_pos {w : World} {base e size n : Nat} {ao : Option Addr} {c : Nat} {xs : List Value} (h : w.ownsRow base e size (.slice ao n c) n xs) (hn : 1 ≤ n) : ∃ g, ao = some ⟨g, 0, none⟩ := by
  rcases h.2 with ⟨_, h0⟩ | ⟨g, cap, cur, hv, _⟩
  · omega
  · exact ⟨g, by simp at hv; exact hv.1⟩
/-- what the reference's Cut gives -/
def RcG (w : World) (P : Nat → Prop) (O A : List UInt8) (t : Tr) (off : Int) (e : Ending) (w' : World) : Prop := ∃ T U x1 d1 x2 d2, CutR O A t off T U ∧ e = .returned (.tuple #[.slice x1 T.size d1, .slice x2 U.size d2]) ∧ Rq w w' P (.slice x1 T.size d1) (rowsT T) ∧ Rq w w' P (.slice x2 U.size d2) (rowsT U) ∧ Below w.heap.size w w'
set_option maxRecDepth 8000 in
set_option maxHeartbeats 4000000 in
theorem rcut_any (a0 a1 ar al : Option Addr) (c0 c1 nr cr cl : Nat) (E : Int) (O A : List UInt8) (base : Nat) (P : Nat → Prop) (t : Tr) (off : Int) (w : World) (hO : Hid (w.ownsRow base 5 1 (.slice a0 O.length c0) O.length (Ab.bv O))) (hA : Hid (w.ownsRow base 5 1 (.slice a1 A.length c1) A.length (Ab.bv A))) (hR : Hid (Rdq w P (.slice al t.size cl) (rowsT t))) (hw : Hid t.whole) (hg : Hid (Gds O A t.list)) (hs : Hid (t.size ≤ 524286)) (hlo : 0 ≤ off) (hhi : off ≤ t.byt) (hbt : t.byt ≤ 1048576) (hbO : O.length ≤ 1048576) (hbA : A.length ≤ 2097152) :
    Calls Tryz.prog 111 #[.agg #[.slice a0 O.length c0, .slice a1 A.length c1, .slice ar nr cr, .int .i64 E], .slice al t.size cl, .int .i64 off] w fun e w' => RcG w P O A t off e w' := by
  by_cases h0 : off = 0
  · subst h0
    go_enter Tryz.func111, Tryz.ntmps111
    go_wp2
    all_goals exact bodyPost_ret (v := .tuple #[.slice none 0 0, .slice al t.size cl]) (by simp [results, Tryz.results111, go_sem]) rfl ⟨Tr.mk none, t, none, 0, al, cl, .inl ⟨rfl, rfl, rfl⟩, rfl, rq_nil _ _ _, hR.out.rq (bAlloc (Below.refl _ _) _), bAlloc (Below.refl _ _) _⟩
  have hpos : 0 < off := by omega
  have hdo : decide (off ≤ 0) = false := decide_eq_false (by omega)
  have hdn : ¬ off ≤ 0 := by omega
  have GT := Hid.mk' (gdw_of hw.out hg.out (by have := hs.out; omega))
  have HBY := Hid.mk' (byt_list t)
  have HSL := Hid.mk' (Tr.size_list t)
  have hszI : Hid ((t.size : Int) ≤ 1048576) := by unfold Hid; have := hs.out; omega
  have B0 := Hid.mk' (bAlloc (Below.refl _ w) (.cells #[.slice a0 O.length c0, .slice a1 A.length c1, .slice ar nr cr, .int .i64 E] 31))
  have KB := Hid.mk' (Blk.new w 31 #[.slice a0 O.length c0, .slice a1 A.length c1, .slice ar nr cr, .int .i64 E])
  have CP := Hid.mk' (fun W (h : Below w.heap.size w W) => Piecesr_any t _ W (show Hid (t.size ≤ 524287) by unfold Hid; have := hs.out; omega) GT.out.ft (hR.out.rdr.keep h))
  have CS := Hid.mk' (fun W (h : Below w.heap.size w W) (k : Nat) (hk : k ≤ t.size) => Splitr_yes t _ k W GT (by have := hs.out; omega) (hR.out.rdr.keep h) hk)
  have CPc := Hid.mk' (fun W (h : Below w.heap.size w W) (s o l : Int) (h1 : -9223372036854775808 ≤ o) (h2 : o ≤ 9223372036854775807) => rpiece_any a0 a1 ar c0 c1 nr cr E O A base s o l W h1 h2 (by have := which_len s (O := O) (A := A) (n := 2097152) (by omega) (by omega); omega) (Ab.own_keep hO.out h) (Ab.own_keep hA.out h))
  go_enter Tryz.func111, Tryz.ntmps111
  go_wp2_with fail
  refine (CP.out _ B0.out).mono ?_
  rintro e w1 ⟨lp, rfl, hown, hb1⟩
  have B1 := Hid.mk' (bT B0.out hb1)
  have K1 := Hid.mk' (KB.out.keep hb1)
  have HP := Hid.mk' hown
  obtain ⟨ap, cp, ep⟩ := own_shape' hown
  subst ep
  clear hown hb1 CP KB B0
  go_wp2_with fail
  go_loopw [9, 10, 11] (fun x y _ wr => ∃ k : Nat, y = .int .i64 k ∧ x = .int .i64 (sB (t.list.take k)) ∧ k ≤ t.size ∧ sB (t.list.take k) ≤ off ∧ 0 ≤ sB (t.list.take k) ∧ wr = w1) (fun _ y _ _ => t.size - (intOf y).toNat)
  case atStart => exact ⟨0, rfl, rfl, Nat.zero_le _, hlo, Int.le_refl _, rfl⟩
  case round =>
    obtain ⟨k, rfl, rfl, hk, hle, hge, hwr⟩ := hrel
    have hq := hwr.symm
    subst hq
    clear hwr
    by_cases hlt : k < t.size
    · have hkl : k < t.list.length := by rw [HSL.out]; exact hlt
      obtain ⟨p, hp⟩ : ∃ p, t.list[k]? = some p := ⟨_, List.getElem?_eq_getElem hkl⟩
      have GP := Hid.mk' (hg.out.at hp)
      have HPK := Hid.mk' hp
      have hsn := sB_snoc t.list k p hp
      have HSN := Hid.mk' hsn
      obtain ⟨gp, rfl⟩ := own_pos HP.out (by omega)
      have hc : ∀ i, i < 4 → w1.cell? ⟨gp, k * 4 + i, none⟩ = p.cs[i]? := fun i hi => by
        rw [HP.out.cellAt (k * 4 + i) (by omega)]; exact cells_at4 hp i hi
      have hl0 := GP.out.fit.1
      have hl1 := GP.out.fit.2.1
      obtain ⟨ps, po, pl, pn⟩ := p
      have c0' := hc 0 (by omega)
      have c1' := hc 1 (by omega)
      have c2' := hc 2 (by omega)
      simp only [Pc.cs, List.getElem?_cons_zero, List.getElem?_cons_succ] at c0' c1' c2'
      dsimp only at hl0 hl1
      have hk0 : (0 : Int) ≤ (k : Int) := by omega
      have hkI : (k : Int) < (t.size : Int) := by omega
      have hkb : (k : Int) ≤ 1048576 := by have := hszI.out; omega
      have hpb : -9223372036854775808 ≤ po ∧ po ≤ 4611686018427387904 ∧ 0 ≤ po := by
        obtain ⟨o', l', e1, e2, _, e4, _⟩ := Ab.hd_parts GP.out.hold
        dsimp only at e1 e2
        have := which_len ps (O := O) (A := A) (n := 2097152) (by omega) (by omega)
        dsimp only at e4
        omega
      clear hc hp hsn hkl
      obtain ⟨S, hS⟩ : ∃ S, sB (t.list.take k) = S := ⟨_, rfl⟩
      rw [hS] at hle hge HSN ⊢
      have HS := Hid.mk' hS
      clear hS
      have hsb : S ≤ 1048576 := by omega
      by_cases hfound : off < S + pl
      · have hx0 : 0 ≤ off - S := by omega
        have hx1 : off - S < pl := by omega
        have D1 := Hid.mk' (CS.out w1 B1.out k (by omega))
        by_cases hat : off = S
        · have HB1 : Hid (off < t.byt) := by
            unfold Hid
            rw [HBY.out]
            have m := sB_mono (Gds.nng hg.out) (k + 1) (t.list.length - (k + 1))
            rw [show k + 1 + (t.list.length - (k + 1)) = t.list.length from by have := HSL.out; omega, List.take_length, HSN.out] at m
            dsimp only at m
            omega
          subst hat
          go_wp2_with fail
          refine D1.out.mono ?_
          rintro e w3 ⟨l1, l2, rfl, h1, h2, hb3⟩
          have R1 := Hid.mk' (rw_rq (P := P) h1 B1.out.size)
          have R2 := Hid.mk' (rw_rq (P := P) h2 B1.out.size)
          obtain ⟨x1, d1, e1⟩ := own_shape' h1
          obtain ⟨x2, d2, e2⟩ := own_shape' h2
          subst e1 e2
          have B3 := Hid.mk' (bT B1.out hb3)
          clear h1 h2 hb3 D1 CS CPc
          go_wp2
          all_goals exact bodyPost_ret (v := .tuple #[.slice x1 (Tr.splitT t k).1.size d1, .slice x2 (Tr.splitT t k).2.size d2]) (by simp [results, Tryz.results111, go_sem]) rfl ⟨(Tr.splitT t k).1, (Tr.splitT t k).2, x1, d1, x2, d2, .inr (.inr ⟨k, 0, _, hpos, HB1.out, HPK.out, Int.le_refl _, by dsimp only; omega, by rw [HS.out]; omega, .inl ⟨rfl, rfl, rfl⟩⟩), rfl, R1.out, R2.out, B3.out⟩
        · obtain ⟨X, hX⟩ : ∃ X, off - S = X := ⟨_, rfl⟩
          rw [hX] at hx0 hx1
          have hX0 : 0 < X := by omega
          have HX := Hid.mk' (show off = S + X by omega)
          have hne : (off == S) = false := by simpa using hat
          obtain ⟨q1, q2, q3, q4, q5⟩ := cut_good GP.out (i := X) hX0 hx1
          have HB1 : Hid (off < t.byt) := by
            unfold Hid
            rw [HBY.out]
            have m := sB_mono (Gds.nng hg.out) (k + 1) (t.list.length - (k + 1))
            rw [show k + 1 + (t.list.length - (k + 1)) = t.list.length from by have := HSL.out; omega, List.take_length, HSN.out] at m
            dsimp only at m
            omega
          have HF : Hid (jnT (Tr.splitT t k).1 ⟨ps, po, X, Ab.lnV ps po X O A⟩ (Tr.mk none) = Tr.joinT (Tr.splitT t k).1 (fstP O A ⟨ps, po, pl, pn⟩ X) (Tr.mk none)) := by
            have e := gd_lnV q1
            unfold fstP at e
            dsimp only at e
            unfold Hid
            rw [e]
            exact jnT_fit q1.fit
          have HSd : Hid (jnT (Tr.mk none) ⟨ps, po + X, pl - X, Ab.lnV ps (po + X) (pl - X) O A⟩ (Tr.splitT t (k + 1)).2 = Tr.joinT (Tr.mk none) (sndP O A ⟨ps, po, pl, pn⟩ X) (Tr.splitT t (k + 1)).2) := by
            have e := gd_lnV q2
            unfold sndP at e
            dsimp only at e
            unfold Hid
            rw [e]
            exact jnT_fit q2.fit
          have hsnd : Ab.sndB ps po pl = true := by
            obtain ⟨o', l', e1, e2, h, _⟩ := Ab.hd_parts GP.out.hold
            dsimp only at e1 e2 h
            rw [e1, e2]; exact h
          have C127 := Hid.mk' (fun W => Ab.refCut_yes ps po pl X W hsnd (by omega) (by omega))
          have SG1 := Hid.mk' (split_gdw (t := t) k GT.out.wh.1 GT.out.ft (by have := hs.out; omega))
          have SG2 := Hid.mk' (split_gdw (t := t) (k + 1) GT.out.wh.1 GT.out.ft (by have := hs.out; omega))
          clear q1 q2 q3 q4 q5 hsnd hat
          go_wp2_with fail
          refine D1.out.mono ?_
          rintro e w3 ⟨l1, l2, rfl, h1, h2, hb3⟩
          have R1 := Hid.mk' (rw_rq (P := P) h1 B1.out.size)
          obtain ⟨x1, d1, e1⟩ := own_shape' h1
          obtain ⟨x2, d2, e2⟩ := own_shape' h2
          subst e1 e2
          have B3 := Hid.mk' (bT B1.out hb3)
          have K3 := Hid.mk' (K1.out.keep hb3)
          have HP3 := Hid.mk' (own_keep' HP.out hb3)
          have d0' : w3.cell? ⟨gp, k * 4, none⟩ = some (.int .i64 ps) := by rw [hb3.cell (cell_lt c0')]; exact c0'
          have d1' : w3.cell? ⟨gp, k * 4 + 1, none⟩ = some (.int .i64 po) := by rw [hb3.cell (cell_lt c1')]; exact c1'
          have d2' : w3.cell? ⟨gp, k * 4 + 2, none⟩ = some (.int .i64 pl) := by rw [hb3.cell (cell_lt c2')]; exact c2'
          clear h1 h2 hb3 D1 c0' c1' c2' HP K1
          go_wp2_with fail
          refine (C127.out _).mono ?_
          rintro e w4 ⟨rfl, hb4⟩
          have B4 := Hid.mk' (bT B3.out hb4)
          have K4 := Hid.mk' (K3.out.keep hb4)
          have R4 := Hid.mk' (R1.out.keep hb4)
          have U5 := Hid.mk' (bAA w4 (.cells #[.int .i64 ps, .int .i64 po, .int .i64 X] 57) (.cells #[.int .i64 ps, .int .i64 (po + X), .int .i64 (pl - X)] 57))
          have M5 := Hid.mk' ((Blk.new w4 57 #[.int .i64 ps, .int .i64 po, .int .i64 X]).keep (bAlloc (Below.refl _ _) (.cells #[.int .i64 ps, .int .i64 (po + X), .int .i64 (pl - X)] 57)))
          have N5 := Blk.new (w4.alloc (.cells #[.int .i64 ps, .int .i64 po, .int .i64 X] 57)) 57 #[.int .i64 ps, .int .i64 (po + X), .int .i64 (pl - X)]
          rw [World.size_alloc] at N5
          have N5 := Hid.mk' N5
          have B5 := Hid.mk' (bT B4.out U5.out)
          have K5 := Hid.mk' (K4.out.keep U5.out)
          have R5 := Hid.mk' (R4.out.keep U5.out)
          have D2 := Hid.mk' (CS.out _ B5.out (k + 1) (by omega))
          rw [show ((k + 1 : Nat) : Int) = (k : Int) + 1 from by omega] at D2
          clear hb4 B4 K4 R4 R1 d0' d1' d2' HP3 B3 K3
          go_wp2_with fail
          refine D2.out.mono ?_
          rintro e w6 ⟨l3, l4, rfl, h3, h4, hb6⟩
          have R6 := Hid.mk' (rw_rq (P := P) h4 B5.out.size)
          obtain ⟨x3, d3, e3⟩ := own_shape' h3
          obtain ⟨x4, d4, e4⟩ := own_shape' h4
          subst e3 e4
          have B6 := Hid.mk' (bT B5.out hb6)
          have K6 := Hid.mk' (K5.out.keep hb6)
          have S6 := Hid.mk' (R5.out.keep hb6)
          have M6 := Hid.mk' (M5.out.keep hb6)
          have N6 := Hid.mk' (N5.out.keep hb6)
          clear h3 h4 hb6 B5 K5 R5 M5 N5 D2 CS U5
          have k0 := K6.out.cell (j := 0) rfl
          have k1 := K6.out.cell (j := 1) rfl
          have k2 := K6.out.cell (j := 2) rfl
          have k3 := K6.out.cell (j := 3) rfl
          have m0 := M6.out.cell (j := 0) rfl
          have m1 := M6.out.cell (j := 1) rfl
          have m2 := M6.out.cell (j := 2) rfl
          go_wp2_with fail
          refine (CPc.out _ B6.out ps po X (by omega) (by omega)).mono ?_
          rintro e w7 ⟨rfl, hb7⟩
          have B7 := Hid.mk' (bT B6.out hb7)
          have K7 := Hid.mk' (K6.out.keep hb7)
          have S7 := Hid.mk' (S6.out.keep hb7)
          have R7 := Hid.mk' (R6.out.keep hb7)
          have N7 := Hid.mk' (N6.out.keep hb7)
          clear hb7 B6 K6 S6 R6 M6 N6 k0 k1 k2 k3 m0 m1 m2
          have D3 := Hid.mk' (Joinr_any (Tr.splitT t k).1 (Tr.mk none) _ (.slice none 0 0) ps po X (Ab.lnV ps po X O A) w7 SG1.out.1 gdw_nil (by have := SG1.out.2.2.1; have := hs.out; show _ + 0 ≤ _; omega) S7.out.rdr (rdr_nil _))
          rw [HF.out] at D3
          go_wp2_with fail
          refine D3.out.mono ?_
          rintro e w8 ⟨l5, rfl, h5, hb8⟩
          have T8 := Hid.mk' (rw_rq (P := P) h5 B7.out.size)
          obtain ⟨x5, d5, e5⟩ := own_shape' h5
          subst e5
          have B8 := Hid.mk' (bT B7.out hb8)
          have K8 := Hid.mk' (K7.out.keep hb8)
          have R8 := Hid.mk' (R7.out.keep hb8)
          have N8 := Hid.mk' (N7.out.keep hb8)
          clear h5 hb8 B7 K7 S7 R7 N7 D3
          have k0 := K8.out.cell (j := 0) rfl
          have k1 := K8.out.cell (j := 1) rfl
          have k2 := K8.out.cell (j := 2) rfl
          have k3 := K8.out.cell (j := 3) rfl
          have m0 := N8.out.cell (j := 0) rfl
          have m1 := N8.out.cell (j := 1) rfl
          have m2 := N8.out.cell (j := 2) rfl
          go_wp2_with fail
          refine (CPc.out _ B8.out ps (po + X) (pl - X) (by omega) (by omega)).mono ?_
          rintro e w9 ⟨rfl, hb9⟩
          have B9 := Hid.mk' (bT B8.out hb9)
          have R9 := Hid.mk' (R8.out.keep hb9)
          have T9 := Hid.mk' (T8.out.keep hb9)
          clear hb9 B8 K8 R8 N8 T8 k0 k1 k2 k3 m0 m1 m2
          have D4 := Hid.mk' (Joinr_any (Tr.mk none) (Tr.splitT t (k + 1)).2 (.slice none 0 0) _ ps (po + X) (pl - X) (Ab.lnV ps (po + X) (pl - X) O A) w9 gdw_nil SG2.out.2.1 (by have := SG2.out.2.2.2; have := hs.out; show 0 + _ ≤ _; omega) (rdr_nil _) R9.out.rdr)
          rw [HSd.out] at D4
          go_wp2_with fail
          refine D4.out.mono ?_
          rintro e w10 ⟨l6, rfl, h6, hb10⟩
          have U10 := Hid.mk' (rw_rq (P := P) h6 B9.out.size)
          obtain ⟨x6, d6, e6⟩ := own_shape' h6
          subst e6
          have B10 := Hid.mk' (bT B9.out hb10)
          have T10 := Hid.mk' (T9.out.keep hb10)
          clear h6 hb10 B9 R9 T9 D4 CPc
          go_wp2
          all_goals exact bodyPost_ret (v := .tuple #[.slice x5 (Tr.joinT (Tr.splitT t k).1 (fstP O A ⟨ps, po, pl, pn⟩ X) (Tr.mk none)).size d5, .slice x6 (Tr.joinT (Tr.mk none) (sndP O A ⟨ps, po, pl, pn⟩ X) (Tr.splitT t (k + 1)).2).size d6]) (by simp [results, Tryz.results111, go_sem]) rfl ⟨_, _, x5, d5, x6, d6, .inr (.inr ⟨k, X, _, hpos, HB1.out, HPK.out, by omega, by dsimp only; omega, by rw [HS.out]; exact HX.out, .inr ⟨hX0, rfl, rfl⟩⟩), rfl, T10.out, U10.out, B10.out⟩
      · have hnf : ¬ off < S + pl := hfound
        have hnx : Hid (sB (t.list.take (k + 1)) = S + pl) := HSN.out
        go_wp2
        go_roundw
        case rel => exact ⟨k + 1, by go_num, by rw [hnx.out]; try rfl, by omega, by rw [hnx.out]; omega, by rw [hnx.out]; omega, by trivial⟩
        case measure => first | (simp [intOf]; done) | (simp [intOf]; omega)
    · obtain rfl : k = t.size := by omega
      have hall : Hid (sB (t.list.take t.size) = t.byt) := by unfold Hid; rw [HBY.out, List.take_of_length_le (by rw [HSL.out]; exact Nat.le_refl _)]
      rw [hall.out] at hle hge ⊢
      have heq : off = t.byt := by omega
      have HEQ := Hid.mk' heq
      have hnl : ¬ (t.size : Int) < (t.size : Int) := by omega
      clear heq
      go_wp2
      all_goals exact bodyPost_ret (v := .tuple #[.slice al t.size cl, .slice none 0 0]) (by simp [results, Tryz.results111, go_sem]) rfl ⟨t, Tr.mk none, al, cl, none, 0, .inr (.inl ⟨h0, HEQ.out, rfl, rfl⟩), rfl, hR.out.rq B1.out, rq_nil _ _ _, B1.out⟩

end Go.Proofs.YtmhpeppbhjpkiaaGreat

/- The variables of the reference's put and out. -/
namespace Go.Proofs.YtmhpeppbhjpkiaaGreat
open Go.RowKit

theorem rd_srvK {W : World} {ao : Option Addr} {n c : Nat} {l : List UInt8} (h : Ab.Rd W (.slice ao n c) l) (hn : l.length = n) : Rk.Srv W (.slice ao n c) n (Ab.bv l) := by
  rcases h with ⟨h0, rfl⟩ | ⟨ad, c2, h0, hcl⟩
  · simp only [Value.slice.injEq] at h0
    obtain ⟨rfl, rfl, rfl⟩ := h0
    exact .inl ⟨rfl, rfl, rfl⟩
  · simp only [Value.slice.injEq] at h0
    obtain ⟨rfl, _, rfl⟩ := h0
    exact .inr ⟨ad, c, rfl, hcl⟩
theorem blk_set {W : World} {B e j : Nat} {cs : Array Value} (h : Blk W B e cs) (v : Value) : Blk (W.setCell ⟨B, j, none⟩ v) B e (cs.setIfInBounds j v) := heap_setCell_same _ _ _ _ _ _ h
theorem blk_off {W : World} {B B' e j : Nat} {cs : Array Value} (h : Blk W B' e cs) (hne : B' ≠ B) (v : Value) : Blk (W.setCell ⟨B, j, none⟩ v) B' e cs := by
  unfold Blk; rw [heap_setCell_other _ _ _ _ hne]; exact h
theorem own_off {W : World} {base e s n k j : Nat} {v u : Value} {xs : List Value} (h : W.ownsRow base e s v n xs) (hk : v.ownBlock ≠ some k) : (W.setCell ⟨k, j, none⟩ u).ownsRow base e s v n xs := by
  refine ⟨h.1, ?_⟩
  rcases h.2 with h0 | ⟨g, cap, cur, rfl, hb', hg, rest⟩
  · exact .inl h0
  · have hne : g ≠ k := fun e => hk (by rw [e]; rfl)
    exact .inr ⟨g, cap, cur, rfl, hb', by rw [heap_setCell_other _ _ _ _ hne]; exact hg, rest⟩
/-- rows that outlive the variables of a call -/
def Pq9 (w : World) (P : Nat → Prop) (g : Nat) : Nat → Prop := fun b => P b ∨ (w.heap.size + 2 ≤ b ∧ b ≠ g)
/-- the variables of put and out -/
structure Ps (w W : World) (P : Nat → Prop) (g9 : Nat) (bx sp : Array Value) (vA : Value) (m : Nat) (xs : List Value) (vl : Value) (T : Tr) (vu : Value) (U : Tr) : Prop where
  lo : ∀ b, P b → b < w.heap.size
  gl : w.heap.size + 2 ≤ g9
  b3 : Blk W w.heap.size 31 bx
  b6 : Blk W (w.heap.size + 1) 31 #[.slice none 0 0, .slice none 0 0, .slice none 0 0, .int .i64 0]
  b9 : Blk W g9 57 sp
  ad : W.ownsRow (w.heap.size + 2) 5 1 vA m xs
  rl : Rdq W (Pq9 w P g9) vl (rowsT T)
  ru : Rdq W (Pq9 w P g9) vu (rowsT U)
  be : Below w.heap.size w W
theorem Ps.keep {w W W' : World} {P : Nat → Prop} {g9 : Nat} {bx sp : Array Value} {vA : Value} {m : Nat} {xs : List Value} {vl : Value} {T : Tr} {vu : Value} {U : Tr} (h : Ps w W P g9 bx sp vA m xs vl T vu U) (hb : Below W.heap.size W W') : Ps w W' P g9 bx sp vA m xs vl T vu U :=
  ⟨h.lo, h.gl, h.b3.keep hb, h.b6.keep hb, h.b9.keep hb, own_keep' h.ad hb, h.rl.keep hb, h.ru.keep hb, bT h.be hb⟩
theorem Ps.drew {w W : World} {P : Nat → Prop} {g9 : Nat} {bx sp : Array Value} {vA : Value} {m : Nat} {xs : List Value} {vl : Value} {T : Tr} {vu : Value} {U : Tr} (h : Ps w W P g9 bx sp vA m xs vl T vu U) : Ps w W.drew P g9 bx sp vA m xs vl T vu U := h.keep (Below.refl _ _).drew
theorem Ps.n9 {w W : World} {P : Nat → Prop} {g9 : Nat} {bx sp : Array Value} {vA : Value} {m : Nat} {xs : List Value} {vl : Value} {T : Tr} {vu : Value} {U : Tr} (h : Ps w W P g9 bx sp vA m xs vl T vu U) : ¬ Pq9 w P g9 g9 ∧ ¬ Pq9 w P g9 w.heap.size ∧ ¬ Pq9 w P g9 (w.heap.size + 1) := by
  have hg := h.gl
  refine ⟨?_, ?_, ?_⟩
  · rintro (h1 | h1)
    · have := h.lo _ h1; omega
    · exact h1.2 rfl
  · rintro (h1 | h1)
    · have := h.lo _ h1; omega
    · omega
  · rintro (h1 | h1)
    · have := h.lo _ h1; omega
    · omega
theorem Ps.ad_ne {w W : World} {P : Nat → Prop} {g9 : Nat} {bx sp : Array Value} {vA : Value} {m : Nat} {xs : List Value} {vl : Value} {T : Tr} {vu : Value} {U : Tr} (h : Ps w W P g9 bx sp vA m xs vl T vu U) : vA.ownBlock ≠ some g9 ∧ vA.ownBlock ≠ some w.heap.size ∧ vA.ownBlock ≠ some (w.heap.size + 1) := by
  refine ⟨fun e => ?_, fun e => ?_, fun e => ?_⟩
  · exact Ab.own_ne h.ad h.b9 (by decide) e.symm
  · have := h.ad.lt _ e; omega
  · have := h.ad.lt _ e; omega
/-- a cell of the boxed sheet is stored -/
theorem Ps.set3 {w W : World} {P : Nat → Prop} {g9 : Nat} {bx sp : Array Value} {vA : Value} {m : Nat} {xs : List Value} {vl : Value} {T : Tr} {vu : Value} {U : Tr} (h : Ps w W P g9 bx sp vA m xs vl T vu U) (j : Nat) (v : Value) : Ps w (W.setCell ⟨w.heap.size, j, none⟩ v) P g9 (bx.setIfInBounds j v) sp vA m xs vl T vu U :=
  ⟨h.lo, h.gl, blk_set h.b3 v, blk_off h.b6 (by omega) v, blk_off h.b9 (by have := h.gl; omega) v, own_off h.ad h.ad_ne.2.1, h.rl.set h.n9.2.1, h.ru.set h.n9.2.1, h.be.setCell (Nat.le_refl _) v⟩
/-- the span is stored -/
theorem Ps.set9 {w W : World} {P : Nat → Prop} {g9 : Nat} {bx : Array Value} {x y z : Value} {vA : Value} {m : Nat} {xs : List Value} {vl : Value} {T : Tr} {vu : Value} {U : Tr} (h : Ps w W P g9 bx #[x, y, z] vA m xs vl T vu U) (x' y' z' : Value) : Ps w (((W.setCell ⟨g9, 0, none⟩ x').setCell ⟨g9, 1, none⟩ y').setCell ⟨g9, 2, none⟩ z') P g9 bx #[x', y', z'] vA m xs vl T vu U := by
  have one : ∀ {W : World} {sp : Array Value} (h : Ps w W P g9 bx sp vA m xs vl T vu U) (j : Nat) (v : Value), Ps w (W.setCell ⟨g9, j, none⟩ v) P g9 bx (sp.setIfInBounds j v) vA m xs vl T vu U := fun h j v =>
    ⟨h.lo, h.gl, blk_off h.b3 (by have := h.gl; omega) v, blk_off h.b6 (by have := h.gl; omega) v, blk_set h.b9 v, own_off h.ad h.ad_ne.1, h.rl.set h.n9.1, h.ru.set h.n9.1, h.be.setCell (by have := h.gl; show w.heap.size ≤ g9; omega) v⟩
  exact one (one (one h 0 x') 1 y') 2 z'
theorem Ps.left {w W W' : World} {P : Nat → Prop} {g9 : Nat} {bx sp : Array Value} {vA : Value} {m : Nat} {xs : List Value} {vl vl' : Value} {T T' : Tr} {vu : Value} {U : Tr} (h : Ps w W P g9 bx sp vA m xs vl T vu U) (hb : Below W.heap.size W W') (hr : Rw1 W T' vl' W') : Ps w W' P g9 bx sp vA m xs vl' T' vu U := by
  have k := h.keep hb
  refine ⟨k.lo, k.gl, k.b3, k.b6, k.b9, k.ad, (rw_rq (P := P) (w := W) hr (Nat.le_refl _)).mono (fun b hb' => ?_), k.ru, k.be⟩
  rcases hb' with h1 | h1
  · exact .inl h1
  · exact .inr ⟨by have := h.b9.lt; have := h.gl; omega, by have := h.b9.lt; omega⟩
theorem Ps.right {w W W' : World} {P : Nat → Prop} {g9 : Nat} {bx sp : Array Value} {vA : Value} {m : Nat} {xs : List Value} {vl vu' : Value} {T U' : Tr} {vu : Value} {U : Tr} (h : Ps w W P g9 bx sp vA m xs vl T vu U) (hb : Below W.heap.size W W') (hr : Rw1 W U' vu' W') : Ps w W' P g9 bx sp vA m xs vl T vu' U' := by
  have k := h.keep hb
  refine ⟨k.lo, k.gl, k.b3, k.b6, k.b9, k.ad, k.rl, (rw_rq (P := P) (w := W) hr (Nat.le_refl _)).mono (fun b hb' => ?_), k.be⟩
  rcases hb' with h1 | h1
  · exact .inl h1
  · exact .inr ⟨by have := h.b9.lt; have := h.gl; omega, by have := h.b9.lt; omega⟩
theorem setb {w W : World} (h : Below w.heap.size w W) (j : Nat) (v : Value) : Below w.heap.size w (W.setCell ⟨w.heap.size + 1, j, none⟩ v) := h.setCell (by show w.heap.size ≤ w.heap.size + 1; omega) v
theorem rq_of {w W : World} {P : Nat → Prop} {g9 : Nat} {v : Value} {L : List Rw} (h : Rdq W (Pq9 w P g9) v L) : Rq w W P v L := by
  obtain ⟨ao, n, c, h1, h2, h3, h4⟩ := h
  refine ⟨ao, n, c, h1, h2, h3, ?_⟩
  by_cases hnil : L = []
  · exact .inl hnil
  rcases h4 with h4 | ⟨b, off, e, hr, hp⟩
  · exact .inl h4
  · refine .inr ⟨b, off, e, hr, ?_⟩
    rcases hp with hp | hp
    · exact .inl hp
    · cases L with
      | nil => exact absurd rfl hnil
      | cons x L' => exact .inr ⟨by omega, cell_lt (hr 0 x rfl).1⟩

end Go.Proofs.YtmhpeppbhjpkiaaGreat

