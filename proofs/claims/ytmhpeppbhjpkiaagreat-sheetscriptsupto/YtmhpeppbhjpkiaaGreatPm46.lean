/- Towards the law's done: what stays where bytes that were lent are written over. -/
import Derived.Test.YtmhpeppbhjpkiaaGreatPm45
namespace Go.Proofs.YtmhpeppbhjpkiaaGreat
open Go.RowKit

theorem u8_set {ys : List Value} (h : ∀ u ∈ ys, ∃ z, u = .int .u8 z) (j : Nat) (z : Int) : ∀ u ∈ ys.set j (.int .u8 z), ∃ z, u = .int .u8 z := by
  intro u hu
  rcases List.mem_or_eq_of_mem_set hu with h1 | h1
  · exact h u h1
  · exact ⟨z, h1⟩
theorem mk_bytes (l : List UInt8) : ∀ u ∈ Ab.bv l ++ mk2, ∃ z, u = .int .u8 z := by
  intro u hu
  rcases List.mem_append.1 hu with h | h
  · simp [Ab.bv] at h
    obtain ⟨b, _, rfl⟩ := h
    exact ⟨_, rfl⟩
  · simp [mk2] at h
    rcases h with rfl | rfl <;> exact ⟨_, rfl⟩
theorem grown_trans {a b c : World} {row : Option Nat} (h : a.grownBy b row) (k : b.grownBy c row) : a.grownBy c row :=
  ⟨k.os.trans h.os, k.tape.trans h.tape, k.output.trans h.output, Nat.le_trans h.size k.size, fun q hq hn => (k.block q (Nat.lt_of_lt_of_le hq h.size) hn).trans (h.block q hq hn)⟩
theorem grown_refl (a : World) (row : Option Nat) : a.grownBy a row := ⟨rfl, rfl, rfl, Nat.le_refl _, fun _ _ _ => rfl⟩
/-- A block of bytes that is apart is written over: the two sheets stay. -/
theorem Duo.grown {X : Nat → Prop} {w0 W W' : World} {sb : Nat} {O A : List UInt8} {t : Tr} {e : Int} {sb2 : Nat} {O2 A2 : List UInt8} {t2 : Tr} {e2 : Int} (h : Duo X w0 W sb O A t e sb2 O2 A2 t2 e2) {g : Nat} {cs : Array Value} (hg : W.grownBy W' (some g)) (hX : X g) (h5 : W.heap[g]? = some (.cells cs 5 (0, 0))) (hw : w0.heap.size ≤ g) : Duo X w0 W' sb O A t e sb2 O2 A2 t2 e2 := by
  obtain ⟨⟨bb, vo, va, a, bb2, vo2, va2, a2, h1, h2, h3, h4⟩, hc⟩ := h
  obtain ⟨x1, x2, x3⟩ := h4 g hX
  have kb : ∀ b, b < W.heap.size → b ≠ g → W'.heap[b]? = W.heap[b]? := fun b hb hn => hg.block b hb (fun e => hn (by simpa using e))
  have nods : Nods W W' := fun b cs' hb => (kb b (heap_lt hb) (fun e => by subst e; rw [h5] at hb; cases hb)).trans hb
  exact ⟨⟨bb, vo, va, a, bb2, vo2, va2, a2, ⟨h1.1.same (fun b hb => kb b (Sown.lt h1.1 hb).1 (fun e => x2 (e ▸ hb))) nods, h1.2⟩, ⟨h2.1.same (fun b hb => kb b (Sown.lt h2.1 hb).1 (fun e => x3 (e ▸ hb))) nods, h2.2⟩, h3, fun b hb => ⟨Nat.lt_of_lt_of_le (h4 b hb).1 hg.size, (h4 b hb).2⟩⟩, hc.grown hg hc.size (fun k hk => by simp at hk; omega)⟩
theorem ln_block {W : World} {B g cap : Nat} {l : List UInt8} (h : Ln W B g cap l) : ∃ cs, W.heap[g]? = some (.cells cs 5 (0, 0)) := by
  rcases h.2 with ⟨h0, _⟩ | ⟨k, cp, cur, hv, _, hg, _⟩
  · simp at h0
  · simp at hv
    obtain ⟨rfl, _⟩ := hv
    exact ⟨_, hg⟩
theorem Ko.grown {W W' : World} {base : Nat} {a0 : Option Addr} {c0 : Nat} {a1 : Option Addr} {c1 : Nat} {ar : Option Addr} {cr : Nat} {O A : List UInt8} {t : Tr} (h : Ko W base a0 c0 a1 c1 ar cr O A t) {g : Nat} {cs : Array Value} (hg : W.grownBy W' (some g)) (h5 : W.heap[g]? = some (.cells cs 5 (0, 0))) (hn : ¬ Xk a0 a1 g) : Ko W' base a0 c0 a1 c1 ar cr O A t := by
  have kb : ∀ b, b < W.heap.size → b ≠ g → W'.heap[b]? = W.heap[b]? := fun b hb hn => hg.block b hb (fun e => hn (by simpa using e))
  refine ⟨own_same h.o (fun k e hk => kb k hk (fun e' => hn (.inl (own_pr (e' ▸ e))))), own_same h.a (fun k e hk => kb k hk (fun e' => hn (.inr (own_pr (e' ▸ e))))), own_same h.r (fun k e hk => kb k hk (fun e' => ?_))⟩
  rcases h.r.2 with ⟨h0, _⟩ | ⟨q, cap, cur, hv, _, hq, _⟩
  · rw [h0] at e; cases e
  · rw [hv] at e
    have e2 : q = k := by simpa [Value.ownBlock] using e
    rw [e2, e', h5] at hq
    cases hq
theorem Blk.grown {W W' : World} {B g : Nat} {ty : TypeId} {cs : Array Value} (h : Blk W B ty cs) (hg : W.grownBy W' (some g)) (hn : B ≠ g) : Blk W' B ty cs := (hg.block B h.lt (fun e => hn (by simpa using e))).trans h
/-- the sheet that a step leaves -/
def rA (A : List UInt8) (t : Tr) (E : Int) (r : Option (List UInt8 × Tr × Int)) : List UInt8 := (r.getD (A, t, E)).1
def rT (A : List UInt8) (t : Tr) (E : Int) (r : Option (List UInt8 × Tr × Int)) : Tr := (r.getD (A, t, E)).2.1
def rE (A : List UInt8) (t : Tr) (E : Int) (r : Option (List UInt8 × Tr × Int)) : Int := (r.getD (A, t, E)).2.2
theorem apgt_get {K : List (Nat × Obj)} {w0 w' : World} {sb : Nat} {O A : List UInt8} {t : Tr} {e : Int} {r : Option (List UInt8 × Tr × Int)} (h : ApGT K w0 w' sb O A t e r) : LzT K w0 w' sb O (rA A t e r) (rT A t e r) (rE A t e r) := by
  cases r with
  | none => exact h
  | some x => exact h
/-- the three boxes of the law's done -/
structure Bd (W W' : World) (bx qx : Array Value) : Prop where
  b4 : Blk W' W.heap.size 31 bx
  b5 : Blk W' (W.heap.size + 1) 35 qx
  b6 : Blk W' (W.heap.size + 2) 31 #[.slice none 0 0, .slice none 0 0, .slice none 0 0, .int .i64 0]
theorem Bd.new (W : World) (bx qx : Array Value) : Bd W (((W.alloc (.cells bx 31)).alloc (.cells qx 35)).alloc (.cells #[.slice none 0 0, .slice none 0 0, .slice none 0 0, .int .i64 0] 31)) bx qx := by
  have h := Blk.new (W.alloc (.cells bx 31)) 35 qx
  have k := Blk.new ((W.alloc (.cells bx 31)).alloc (.cells qx 35)) 31 #[.slice none 0 0, .slice none 0 0, .slice none 0 0, .int .i64 0]
  simp only [World.size_alloc] at h k
  exact ⟨((Blk.new W 31 bx).keep (bAlloc (Below.refl _ _) _)).keep (bAlloc (Below.refl _ _) _), h.keep (bAlloc (Below.refl _ _) _), k⟩
theorem Bd.keep {W V V' : World} {bx qx : Array Value} (h : Bd W V bx qx) (hb : Below V.heap.size V V') : Bd W V' bx qx := ⟨h.b4.keep hb, h.b5.keep hb, h.b6.keep hb⟩
theorem Bd.fr {X : Nat → Prop} {w0 W V V' : World} {bx qx : Array Value} (h : Bd W V bx qx) (hf : Fr X w0 V V') : Bd W V' bx qx := ⟨h.b4.fr hf (by decide), h.b5.fr hf (by decide), h.b6.fr hf (by decide)⟩
theorem Bd.grown {W V V' : World} {bx qx : Array Value} {g : Nat} (h : Bd W V bx qx) (hg : V.grownBy V' (some g)) (hn : W.heap.size + 3 ≤ g) : Bd W V' bx qx := ⟨h.b4.grown hg (by omega), h.b5.grown hg (by omega), h.b6.grown hg (by omega)⟩
/-- what the law's done leaves -/
def DonG (w0 W : World) (base sb : Nat) (O A : List UInt8) (t : Tr) (E : Int) (sb2 : Nat) (O2 A2 : List UInt8) (t2 : Tr) (e2 : Int) (a0 : Option Addr) (c0 : Nat) (r : Option (List UInt8 × Tr × Int)) (e : Ending) (w' : World) : Prop := ∃ x1 d1 xr dr, e = .returned (.tuple #[.agg #[.slice a0 O.length c0, .slice x1 (rA A t E r).length d1, .slice xr (rT A t E r).size dr, .int .i64 (rE A t E r)], .bool true]) ∧ Ko w' base a0 c0 x1 d1 xr dr O (rA A t E r) (rT A t E r) ∧ Duo (Xk a0 x1) w0 w' sb O (rA A t E r) (rT A t E r) (rE A t E r) sb2 O2 A2 t2 e2 ∧ Fr (fun _ => False) w0 W w'

end Go.Proofs.YtmhpeppbhjpkiaaGreat

/- The law's done, at a Delete. -/
namespace Go.Proofs.YtmhpeppbhjpkiaaGreat
open Go.RowKit

theorem size_set (W : World) (a : Addr) (v : Value) : (W.setCell a v).heap.size = W.heap.size := by
  show (W.heap.modify _ _).size = _
  rw [Array.size_modify]
theorem off4 {W : World} {k b : Nat} (hn : b ≠ k) (y0 y1 y2 y3 : Value) : ((((W.setCell ⟨k, 0, none⟩ y0).setCell ⟨k, 1, none⟩ y1).setCell ⟨k, 2, none⟩ y2).setCell ⟨k, 3, none⟩ y3).heap[b]? = W.heap[b]? := by
  rw [heap_setCell_other _ _ _ _ hn, heap_setCell_other _ _ _ _ hn, heap_setCell_other _ _ _ _ hn, heap_setCell_other _ _ _ _ hn]
/-- A box is stored: the two sheets stay. -/
theorem Duo.off4 {X : Nat → Prop} {w0 W : World} {sb : Nat} {O A : List UInt8} {t : Tr} {e : Int} {sb2 : Nat} {O2 A2 : List UInt8} {t2 : Tr} {e2 : Int} (h : Duo X w0 W sb O A t e sb2 O2 A2 t2 e2) {k : Nat} {cs : Array Value} (hk : Blk W k 31 cs) (hw : w0.heap.size ≤ k) (y0 y1 y2 y3 : Value) : Duo X w0 ((((W.setCell ⟨k, 0, none⟩ y0).setCell ⟨k, 1, none⟩ y1).setCell ⟨k, 2, none⟩ y2).setCell ⟨k, 3, none⟩ y3) sb O A t e sb2 O2 A2 t2 e2 := by
  obtain ⟨⟨bb, vo, va, a, bb2, vo2, va2, a2, h1, h2, h3, h4⟩, hc⟩ := h
  have kb : ∀ b, b ≠ k → ((((W.setCell ⟨k, 0, none⟩ y0).setCell ⟨k, 1, none⟩ y1).setCell ⟨k, 2, none⟩ y2).setCell ⟨k, 3, none⟩ y3).heap[b]? = W.heap[b]? := fun b hn => YtmhpeppbhjpkiaaGreat.off4 hn y0 y1 y2 y3
  have hk' : W.heap[k]? = some (.cells cs 31 (0, 0)) := hk
  have nods : Nods W ((((W.setCell ⟨k, 0, none⟩ y0).setCell ⟨k, 1, none⟩ y1).setCell ⟨k, 2, none⟩ y2).setCell ⟨k, 3, none⟩ y3) := fun b cs' hb => (kb b (fun e => by subst e; rw [hk'] at hb; cases hb)).trans hb
  exact ⟨⟨bb, vo, va, a, bb2, vo2, va2, a2, ⟨h1.1.same (fun b hb => kb b (fun e => Sown.kind h1.1 hk' (by decide) (e ▸ hb))) nods, h1.2⟩, ⟨h2.1.same (fun b hb => kb b (fun e => Sown.kind h2.1 hk' (by decide) (e ▸ hb))) nods, h2.2⟩, h3, fun b hb => ⟨by rw [size_set, size_set, size_set, size_set]; exact (h4 b hb).1, (h4 b hb).2⟩⟩, (((hc.setCell hw _).setCell hw _).setCell hw _).setCell hw _⟩
theorem redr_get {w : World} {base : Nat} {a0 : Option Addr} {c0 : Nat} {a1 : Option Addr} {O A : List UInt8} {t : Tr} {E : Int} {r : Option (List UInt8 × Tr × Int)} {z : Int} {e : Ending} {w' : World} (h : RedR w base a0 c0 a1 O A t E r z e w') : ∃ x1 d1 xr dr, e = .returned (.tuple #[.agg #[.slice a0 O.length c0, .slice x1 (rA A t E r).length d1, .slice xr (rT A t E r).size dr, .int .i64 (rE A t E r)], .int .i64 (erV r z)]) ∧ Ko w' base a0 c0 x1 d1 xr dr O (rA A t E r) (rT A t E r) ∧ Below w.heap.size w w' ∧ ∀ b, Pr x1 b → Pr a1 b ∨ w.heap.size ≤ b := h
theorem pr_own {ao : Option Addr} {n c b : Nat} (h : Pr ao b) : (Value.slice ao n c).ownBlock = some b := by
  obtain ⟨a, rfl, rfl⟩ := h
  rfl
/-- the end of the law's done -/
theorem don_end {X : Nat → Prop} {w0 W w5 : World} {base sb : Nat} {O A : List UInt8} {t : Tr} {E : Int} {sb2 : Nat} {O2 A2 : List UInt8} {t2 : Tr} {e2 : Int} {a0 : Option Addr} {c0 : Nat} {r : Option (List UInt8 × Tr × Int)} {x1 : Option Addr} {d1 : Nat} {xr : Option Addr} {dr : Nat} {bx qx : Array Value} (G : Bd W w5 bx qx) (hw : w0.heap.size ≤ W.heap.size) (KO : Ko w5 base a0 c0 x1 d1 xr dr O (rA A t E r) (rT A t E r)) (D : Duo X w0 w5 sb O (rA A t E r) (rT A t E r) (rE A t E r) sb2 O2 A2 t2 e2) (hX : ∀ b, Xk a0 x1 b → X b) (F : Fr (fun _ => False) w0 W w5) (y0 y1 y2 y3 : Value) : DonG w0 W base sb O A t E sb2 O2 A2 t2 e2 a0 c0 r (.returned (.tuple #[.agg #[.slice a0 O.length c0, .slice x1 (rA A t E r).length d1, .slice xr (rT A t E r).size dr, .int .i64 (rE A t E r)], .bool true])) ((((w5.setCell ⟨W.heap.size + 2, 0, none⟩ y0).setCell ⟨W.heap.size + 2, 1, none⟩ y1).setCell ⟨W.heap.size + 2, 2, none⟩ y2).setCell ⟨W.heap.size + 2, 3, none⟩ y3) :=
  ⟨x1, d1, xr, dr, rfl, ko_setk KO G.b6 y0 y1 y2 y3, (D.mono hX).off4 G.b6 (by omega) y0 y1 y2 y3, fun b cs ty hb ht => (off4 (by have := heap_lt hb; omega) y0 y1 y2 y3).trans (F b cs ty hb ht)⟩

set_option maxRecDepth 8000 in
set_option maxHeartbeats 4000000 in
theorem done1 (w0 W : World) (sb sb2 : Nat) (a0 a1 ar : Option Addr) (c0 c1 cr : Nat) (E : Int) (O A : List UInt8) (base : Nat) (t : Tr) (O2 A2 : List UInt8) (t2 : Tr) (e2 : Int) (x y : Int) (vp ve : Value) (hz : Hid ((txt O A t.list).length ≤ 1048574)) (hA : A.length ≤ 1048576) (hD : Hid (Duo (Xk a0 a1) w0 W sb O A t E sb2 O2 A2 t2 e2)) (KK : Hid (Ko W base a0 c0 a1 c1 ar cr O A t)) (hB : Hid (base ≤ w0.heap.size)) (hs : Hid (t.size ≤ 524280)) (hbO : O.length ≤ 1048576) (hE : 0 ≤ E ∧ E ≤ 4611686018427387904) :
    Calls Tryz.prog 11 #[.pointer (some ⟨sb, 0, none⟩), .agg #[.slice a0 O.length c0, .slice a1 A.length c1, .slice ar t.size cr, .int .i64 E], .agg #[.int .i64 1, .int .i64 x, .int .i64 y, vp, ve]] W fun e w' => ∃ r, DeR O A t E x y r ∧ DonG w0 W base sb O A t E sb2 O2 A2 t2 e2 a0 c0 r e w' := by
  have B0 := Hid.mk' (bAlloc (bAA W (.cells #[.slice a0 O.length c0, .slice a1 A.length c1, .slice ar t.size cr, .int .i64 E] 31) (.cells #[.int .i64 1, .int .i64 x, .int .i64 y, vp, ve] 35)) (.cells #[.slice none 0 0, .slice none 0 0, .slice none 0 0, .int .i64 0] 31))
  have G0 := Hid.mk' (Bd.new W #[.slice a0 O.length c0, .slice a1 A.length c1, .slice ar t.size cr, .int .i64 E] #[.int .i64 1, .int .i64 x, .int .i64 y, vp, ve])
  have FB : Hid (Fr (fun _ => False) w0 W _) := Fr.of_below B0.out
  have D1 := Hid.mk' (hD.out.keep B0.out)
  have K1 := Hid.mk' (KK.out.keep B0.out)
  obtain ⟨Kl, hLz, _, _, _, hstep⟩ := D1.out.step
  have HST := Hid.mk' hstep
  have C34 := Hid.mk' (Delete_tr w0 _ sb O A t E x y hLz hz hE)
  clear hstep hLz
  go_enter Tryz.func11, Tryz.ntmps11
  go_wp2_with fail
  refine C34.out.mono ?_
  rintro e w3 ⟨r, hr, rfl, hgave⟩
  obtain ⟨hD3, hF3⟩ := HST.out w3 _ _ _ (apgt_get hgave)
  have D3 := Hid.mk' hD3
  have F3 := Hid.mk' hF3
  have HR := Hid.mk' hr
  have G3 := Hid.mk' (G0.out.fr hF3)
  have K3 := Hid.mk' (K1.out.fr hF3 (fun b hb => .inl hb))
  have hB3 : Hid (base ≤ w3.heap.size) := Nat.le_trans hB.out hD3.bel.size
  obtain ⟨hwt, hgt⟩ := hD.out.lz.wh
  have C35 := Hid.mk' (rDelete_tr a0 a1 ar c0 c1 cr E O A base t x y w3 K3 hB3 hwt hgt hs (show Hid ((txt O A t.list).length ≤ 1048575) by unfold Hid; have := hz.out; omega) hA hbO hE)
  have HWT := Hid.mk' hwt
  have HGT := Hid.mk' hgt
  have k0 := G3.out.b4.cell (j := 0) rfl
  have k1 := G3.out.b4.cell (j := 1) rfl
  have k2 := G3.out.b4.cell (j := 2) rfl
  have k3 := G3.out.b4.cell (j := 3) rfl
  have p0 := G3.out.b5.cell (j := 0) rfl
  have p1 := G3.out.b5.cell (j := 1) rfl
  have p2 := G3.out.b5.cell (j := 2) rfl
  have p3 := G3.out.b5.cell (j := 3) rfl
  have p4 := G3.out.b5.cell (j := 4) rfl
  clear hgave hD3 hF3 hr C34 HST hwt hgt D1 K1 G0 B0
  generalize hz0 : erV r 30 = z0 at *
  have HZ0 := Hid.mk' hz0
  clear hz0
  go_wp2_with fail
  refine C35.out.mono ?_
  intro e w4 hq
  obtain ⟨r', hr', hq⟩ := hq
  obtain ⟨x1, d1, xr, dr, rfl, k4, b4, hpx⟩ := redr_get hq
  obtain rfl := DeR.one HWT.out HGT.out HR.out hr'
  have HX4 : Hid (∀ b, Xk a0 x1 b → (Xk a0 a1 b ∨ (W.heap.size ≤ b ∧ b < (((W.alloc (.cells #[.slice a0 O.length c0, .slice a1 A.length c1, .slice ar t.size cr, .int .i64 E] 31)).alloc (.cells #[.int .i64 1, .int .i64 x, .int .i64 y, vp, ve] 35)).alloc (.cells #[.slice none 0 0, .slice none 0 0, .slice none 0 0, .int .i64 0] 31)).heap.size)) ∨ (w3.heap.size ≤ b ∧ b < w4.heap.size)) := by
    unfold Hid
    rintro b (hb | hb)
    · exact .inl (.inl (.inl hb))
    · rcases hpx b hb with h | h
      · exact .inl (.inl (.inr h))
      · exact .inr ⟨h, (k4.a.lt b (pr_own hb)).2⟩
  have D4 := Hid.mk' (D3.out.keep b4)
  have G4 := Hid.mk' (G3.out.keep b4)
  have F4 : Hid (Fr (fun _ => False) w0 W w4) := ((FB.out.trans (F3.out.mono (fun _ h => h.elim))).trans (Fr.of_below b4))
  have K4 := Hid.mk' k4
  clear k4 b4 hpx hr' hq C35 k0 k1 k2 k3 p0 p1 p2 p3 p4 D3 G3 F3 K3
  generalize hA' : rA A t E r = A' at *
  generalize hT' : rT A t E r = t' at *
  generalize hE' : rE A t E r = E' at *
  rw [HZ0.out]
  have HAq := Hid.mk' hA'
  have HTq := Hid.mk' hT'
  have HEq := Hid.mk' hE'
  clear hA' hT' hE'
  have G5 := Hid.mk' (G4.out.keep (bAlloc (Below.refl _ _) (.cells #[.slice a0 O.length c0, .slice x1 A'.length d1, .slice xr t'.size dr, .int .i64 E'] 31)))
  have g0 := G5.out.b6.cell (j := 0) rfl
  have g1 := G5.out.b6.cell (j := 1) rfl
  have g2 := G5.out.b6.cell (j := 2) rfl
  have g3 := G5.out.b6.cell (j := 3) rfl
  have q0 := G5.out.b6.frozen 0
  have q1 := G5.out.b6.frozen 1
  have q2 := G5.out.b6.frozen 2
  have q3 := G5.out.b6.frozen 3
  have gz := G5.out.b6.lt
  go_wp2
  all_goals exact bodyPost_ret (v := .tuple #[.agg #[.slice a0 O.length c0, .slice x1 A'.length d1, .slice xr t'.size dr, .int .i64 E'], .bool true]) (by simp [results, Tryz.results11, go_sem, g0, g1, g2, g3]) rfl (by
    have h1 := HAq.out
    have h2 := HTq.out
    have h3 := HEq.out
    subst h1 h2 h3
    exact ⟨r, HR.out, don_end G5.out hD.out.bel.size (K4.out.keep (bAlloc (Below.refl _ _) _)) (D4.out.keep (bAlloc (Below.refl _ _) _)) (fun b hb => .inl (HX4.out b hb)) (F4.out.trans (Fr.of_below (bAlloc (Below.refl _ _) _))) _ _ _ _⟩)

end Go.Proofs.YtmhpeppbhjpkiaaGreat

/- The law's done, at an Insert. -/
namespace Go.Proofs.YtmhpeppbhjpkiaaGreat
open Go.RowKit

set_option maxRecDepth 8000 in
set_option maxHeartbeats 4000000 in
theorem done0 (w0 W : World) (sb sb2 : Nat) (a0 a1 ar : Option Addr) (c0 c1 cr : Nat) (E : Int) (O A : List UInt8) (base : Nat) (t : Tr) (O2 A2 : List UInt8) (t2 : Tr) (e2 : Int) (x y : Int) (ap : Option Addr) (cp : Nat) (l : List UInt8) (ve : Value) (hp : Hid (Ab.Rd w0 (.slice ap l.length cp) l)) (hz : Hid ((txt O A t.list).length + l.length ≤ 1048574)) (hA : A.length + l.length ≤ 1048576) (hD : Hid (Duo (Xk a0 a1) w0 W sb O A t E sb2 O2 A2 t2 e2)) (KK : Hid (Ko W base a0 c0 a1 c1 ar cr O A t)) (hB : Hid (base ≤ w0.heap.size)) (hs : Hid (t.size ≤ 524280)) (hbO : O.length ≤ 1048576) (hE : 0 ≤ E ∧ E ≤ 4611686018427387904) :
    Calls Tryz.prog 11 #[.pointer (some ⟨sb, 0, none⟩), .agg #[.slice a0 O.length c0, .slice a1 A.length c1, .slice ar t.size cr, .int .i64 E], .agg #[.int .i64 0, .int .i64 x, .int .i64 y, .slice ap l.length cp, ve]] W fun e w' => ∃ r, InR O A t E x l r ∧ DonG w0 W base sb O A t E sb2 O2 A2 t2 e2 a0 c0 r e w' := by
  have hll : l.length ≤ 1048576 := by omega
  have B0 := Hid.mk' (bAlloc (bAA W (.cells #[.slice a0 O.length c0, .slice a1 A.length c1, .slice ar t.size cr, .int .i64 E] 31) (.cells #[.int .i64 0, .int .i64 x, .int .i64 y, .slice ap l.length cp, ve] 35)) (.cells #[.slice none 0 0, .slice none 0 0, .slice none 0 0, .int .i64 0] 31))
  have G0 := Hid.mk' (Bd.new W #[.slice a0 O.length c0, .slice a1 A.length c1, .slice ar t.size cr, .int .i64 E] #[.int .i64 0, .int .i64 x, .int .i64 y, .slice ap l.length cp, ve])
  have C5 := Hid.mk' (lent_any ap cp l _ (by omega) ((hp.out.keep hD.out.bel).keep B0.out))
  go_enter Tryz.func11, Tryz.ntmps11
  go_wp2_with fail
  refine C5.out.mono ?_
  rintro e w2 ⟨g, cap, rfl, o2, b2⟩
  have B2 := Hid.mk' (bT B0.out b2)
  have FB : Hid (Fr (fun _ => False) w0 W w2) := Fr.of_below B2.out
  have D2 := Hid.mk' (hD.out.keep B2.out)
  have K2 := Hid.mk' (KK.out.keep B2.out)
  have G2 := Hid.mk' (G0.out.keep b2)
  have L2 : Hid (Ln w2 (W.heap.size + 3) g cap l) := by unfold Hid; have h := o2; simp only [World.size_alloc] at h; exact h
  clear o2 b2 B0 G0 C5
  obtain ⟨Kl, hLz, _, _, _, hstep⟩ := D2.out.step
  have HST := Hid.mk' hstep
  have C13 := Hid.mk' (Insert_tr w0 w2 sb O A t E x (some ⟨g, 0, none⟩) cap l hLz hz hA hE (lent_rd L2.out))
  have k0 := G2.out.b4.cell (j := 0) rfl
  have k1 := G2.out.b4.cell (j := 1) rfl
  have k2 := G2.out.b4.cell (j := 2) rfl
  have k3 := G2.out.b4.cell (j := 3) rfl
  have p0 := G2.out.b5.cell (j := 0) rfl
  have p1 := G2.out.b5.cell (j := 1) rfl
  have p2 := G2.out.b5.cell (j := 2) rfl
  have p3 := G2.out.b5.cell (j := 3) rfl
  have p4 := G2.out.b5.cell (j := 4) rfl
  clear hstep hLz
  go_wp2_with fail
  refine C13.out.mono ?_
  clear k0 k1 k2 k3 p0 p1 p2 p3 p4
  rintro e w3 ⟨r, hr, rfl, hgave⟩
  obtain ⟨hD3, hF3⟩ := HST.out w3 _ _ _ (apgt_get hgave)
  have D3 := Hid.mk' hD3
  have F3 := Hid.mk' hF3
  have HR := Hid.mk' hr
  have G3 := Hid.mk' (G2.out.fr hF3)
  have K3 := Hid.mk' (K2.out.fr hF3 (fun b hb => .inl hb))
  have L3 : Hid (Ln w3 (W.heap.size + 3) g cap l) := own_fr L2.out hF3 (.inl fun b hb => by
    have e : g = b := by simpa [Value.ownBlock] using hb
    have := L2.out.lt
    exact .inr ⟨by omega, by omega⟩)
  have hB3 : Hid (base ≤ w3.heap.size) := Nat.le_trans hB.out hD3.bel.size
  obtain ⟨hwt, hgt⟩ := hD.out.lz.wh
  have C33 := Hid.mk' (rInsert_tr a0 a1 ar ap c0 c1 cr cp E O A l base t x w3 K3 hB3 (hp.out.keep hD3.bel) hwt hgt hs (show Hid ((txt O A t.list).length + l.length ≤ 1048575) by unfold Hid; have := hz.out; omega) hA hbO hE)
  have HGT := Hid.mk' hgt
  have k0 := G3.out.b4.cell (j := 0) rfl
  have k1 := G3.out.b4.cell (j := 1) rfl
  have k2 := G3.out.b4.cell (j := 2) rfl
  have k3 := G3.out.b4.cell (j := 3) rfl
  have p0 := G3.out.b5.cell (j := 0) rfl
  have p1 := G3.out.b5.cell (j := 1) rfl
  have p2 := G3.out.b5.cell (j := 2) rfl
  have p3 := G3.out.b5.cell (j := 3) rfl
  have p4 := G3.out.b5.cell (j := 4) rfl
  clear hgave hD3 hF3 hr C13 HST hwt hgt D2 K2 G2
  generalize hz0 : erV r 30 = z0 at *
  have HZ0 := Hid.mk' hz0
  clear hz0
  go_wp2_with fail
  refine C33.out.mono ?_
  intro e w4 hq
  obtain ⟨r', hr', hq⟩ := hq
  obtain ⟨x1, d1, xr, dr, rfl, k4, b4, hpx⟩ := redr_get hq
  obtain rfl := InR.one HGT.out HR.out hr'
  have HX4 : Hid (∀ b, Xk a0 x1 b → (Xk a0 a1 b ∨ (W.heap.size ≤ b ∧ b < w2.heap.size)) ∨ (w3.heap.size ≤ b ∧ b < w4.heap.size)) := by
    unfold Hid
    rintro b (hb | hb)
    · exact .inl (.inl (.inl hb))
    · rcases hpx b hb with h | h
      · exact .inl (.inl (.inr h))
      · exact .inr ⟨h, (k4.a.lt b (pr_own hb)).2⟩
  have hXg : Hid (¬ Xk a0 x1 g) := by
    unfold Hid
    have l2 := L2.out.lt
    have l3 := L3.out.lt
    rintro (hb | hb)
    · have := (KK.out.o.lt g (pr_own hb)).2; omega
    · rcases hpx g hb with h | h
      · have := (KK.out.a.lt g (pr_own h)).2; omega
      · omega
  have D4 := Hid.mk' (D3.out.keep b4)
  have G4 := Hid.mk' (G3.out.keep b4)
  have F4 : Hid (Fr (fun _ => False) w0 W w4) := ((FB.out.trans (F3.out.mono (fun _ h => h.elim))).trans (Fr.of_below b4))
  have K4 := Hid.mk' k4
  have L4 := Hid.mk' (L3.out.keep b4)
  clear k4 b4 hpx hr' hq C33 k0 k1 k2 k3 p0 p1 p2 p3 p4 D3 G3 F3 K3 L3
  generalize hA' : rA A t E r = A' at *
  generalize hT' : rT A t E r = t' at *
  generalize hE' : rE A t E r = E' at *
  rw [HZ0.out]
  have HAq := Hid.mk' hA'
  have HTq := Hid.mk' hT'
  have HEq := Hid.mk' hE'
  clear hA' hT' hE'
  have b5 := bAlloc (Below.refl w4.heap.size w4) (.cells #[.slice a0 O.length c0, .slice x1 A'.length d1, .slice xr t'.size dr, .int .i64 E'] 31)
  have G5 := Hid.mk' (G4.out.keep b5)
  have D5 := Hid.mk' (D4.out.keep b5)
  have K5 := Hid.mk' (K4.out.keep b5)
  have L5 := Hid.mk' (L4.out.keep b5)
  have F5 := Hid.mk' (F4.out.trans (Fr.of_below b5))
  have T5 := Hid.mk' (Blk.new w4 31 #[.slice a0 O.length c0, .slice x1 A'.length d1, .slice xr t'.size dr, .int .i64 E'])
  have k0 := G5.out.b4.cell (j := 0) rfl
  have k1 := G5.out.b4.cell (j := 1) rfl
  have k2 := G5.out.b4.cell (j := 2) rfl
  have k3 := G5.out.b4.cell (j := 3) rfl
  have p0 := G5.out.b5.cell (j := 0) rfl
  have p1 := G5.out.b5.cell (j := 1) rfl
  have p2 := G5.out.b5.cell (j := 2) rfl
  have p3 := G5.out.b5.cell (j := 3) rfl
  have p4 := G5.out.b5.cell (j := 4) rfl
  clear b5 G4 D4 K4 F4
  go_wp2_with fail
  generalize w4.alloc (.cells #[.slice a0 O.length c0, .slice x1 A'.length d1, .slice xr t'.size dr, .int .i64 E'] 31) = w5 at *
  refine (whole_any g cap ap cp (W.heap.size + 3) l w5 (by omega) (hp.out.keep D5.out.bel) L5.out).mono ?_
  rintro e w6 ⟨rfl, rfl⟩
  clear k0 k1 k2 k3 p0 p1 p2 p3 p4
  go_wp2_with fail
  go_loopw [12, 53] (fun _ x wr => ∃ (j : Nat) (ys : List Value), j ≤ l.length ∧ x = .int .i64 j ∧ wr.ownsRow (W.heap.size + 3) 5 1 (.slice (some ⟨g, 0, none⟩) (l.length + 2) cap) (l.length + 2) ys ∧ (∀ u ∈ ys, ∃ z, u = .int .u8 z) ∧ w6.grownBy wr (some g)) (fun _ x _ => l.length - (intOf x).toNat)
  case atStart => exact ⟨0, _, Nat.zero_le _, rfl, L5.out, mk_bytes l, grown_refl _ _⟩
  case round =>
    obtain ⟨j, ys, hj, rfl, hw, hu, hg⟩ := hrel
    have HW := Hid.mk' hw
    have HU : Hid (∀ u ∈ ys, ∃ z, u = .int .u8 z) := hu
    have HG := Hid.mk' hg
    clear hw hu hg
    by_cases hlt : j < l.length
    · have hyl : ys.length = l.length + 2 := by have := HW.out.1; omega
      obtain ⟨z, hz9⟩ : ∃ z, wr.cell? ⟨g, j, none⟩ = some (.int .u8 z) := by
        obtain ⟨z, hz⟩ := HU.out (ys[j]'(by omega)) (List.getElem_mem _)
        exact ⟨z, by rw [HW.out.cellAt j (by omega), List.getElem?_eq_getElem (by omega), hz]⟩
      have hf := HW.out.frozenAt j
      have hj0 : (0 : Int) ≤ (j : Int) := by omega
      have hj1 : (j : Int) < (l.length : Int) := by omega
      go_wp2
      go_roundw
      case rel => exact ⟨j + 1, _, by omega, by go_num, (HW.out.stored j _).1, u8_set HU.out j _, grown_trans HG.out (HW.out.stored j _).2⟩
      case measure => simp [intOf]; omega
    · have hjn : ¬ (j : Int) < (l.length : Int) := by omega
      obtain ⟨cs5, h5⟩ := ln_block L5.out
      have hg2 := L2.out.lt
      have hw0 := hD.out.bel.size
      have D6 := Hid.mk' (D5.out.grown HG.out (.inl (.inl (.inr ⟨by omega, hg2.2⟩))) h5 (by omega))
      have K6 := Hid.mk' (K5.out.grown HG.out h5 hXg.out)
      have G6 := Hid.mk' (G5.out.grown HG.out hg2.1)
      have T6 := Hid.mk' (T5.out.grown HG.out (by have := L4.out.lt.2; omega))
      have F6 : Hid (Fr (fun _ => False) w0 W wr) := fun b cs ty hb ht => (HG.out.block b (heap_lt (F5.out b cs ty hb ht)) (fun e => by have := heap_lt hb; simp at e; omega)).trans (F5.out b cs ty hb ht)
      have t0 := T6.out.cell (j := 0) rfl
      have t1 := T6.out.cell (j := 1) rfl
      have t2 := T6.out.cell (j := 2) rfl
      have t3 := T6.out.cell (j := 3) rfl
      have g0 := G6.out.b6.cell (j := 0) rfl
      have g1 := G6.out.b6.cell (j := 1) rfl
      have g2 := G6.out.b6.cell (j := 2) rfl
      have g3 := G6.out.b6.cell (j := 3) rfl
      have q0 := G6.out.b6.frozen 0
      have q1 := G6.out.b6.frozen 1
      have q2 := G6.out.b6.frozen 2
      have q3 := G6.out.b6.frozen 3
      have gz := G6.out.b6.lt
      clear h5 hg2 hw0
      go_wp2
      all_goals exact bodyPost_ret (v := .tuple #[.agg #[.slice a0 O.length c0, .slice x1 A'.length d1, .slice xr t'.size dr, .int .i64 E'], .bool true]) (by simp [results, Tryz.results11, go_sem, g0, g1, g2, g3]) rfl (by
        have h1 := HAq.out
        have h2 := HTq.out
        have h3 := HEq.out
        subst h1 h2 h3
        exact ⟨r, HR.out, don_end G6.out hD.out.bel.size K6.out D6.out (fun b hb => .inl (HX4.out b hb)) F6.out _ _ _ _⟩)

end Go.Proofs.YtmhpeppbhjpkiaaGreat

/- Towards the law's done at an Apply: edits copied, and written over one behind the other. -/
namespace Go.Proofs.YtmhpeppbhjpkiaaGreat
open Go.RowKit

/-- only some blocks have changed -/
structure Gs (S : Nat → Prop) (W W' : World) : Prop where
  os : W'.os = W.os
  tape : W'.tape = W.tape
  output : W'.output = W.output
  size : W.heap.size ≤ W'.heap.size
  block : ∀ b, b < W.heap.size → ¬ S b → W'.heap[b]? = W.heap[b]?
theorem Gs.refl (S : Nat → Prop) (W : World) : Gs S W W := ⟨rfl, rfl, rfl, Nat.le_refl _, fun _ _ _ => rfl⟩
theorem Gs.keep {S : Nat → Prop} {W V V' : World} (h : Gs S W V) (hb : Below V.heap.size V V') : Gs S W V' := ⟨hb.os.trans h.os, hb.tape.trans h.tape, hb.output.trans h.output, Nat.le_trans h.size hb.size, fun b hl hn => (hb.block b (Nat.lt_of_lt_of_le hl h.size)).trans (h.block b hl hn)⟩
theorem Gs.grown {S : Nat → Prop} {W V V' : World} {g : Nat} (h : Gs S W V) (hg : V.grownBy V' (some g)) (hS : S g) : Gs S W V' := ⟨hg.os.trans h.os, hg.tape.trans h.tape, hg.output.trans h.output, Nat.le_trans h.size hg.size, fun b hl hn => (hg.block b (Nat.lt_of_lt_of_le hl h.size) (fun e => hn (by simp at e; rw [e]; exact hS))).trans (h.block b hl hn)⟩
theorem Duo.gs {X S : Nat → Prop} {w0 W W' : World} {sb : Nat} {O A : List UInt8} {t : Tr} {e : Int} {sb2 : Nat} {O2 A2 : List UInt8} {t2 : Tr} {e2 : Int} (h : Duo X w0 W sb O A t e sb2 O2 A2 t2 e2) (hg : Gs S W W') (hS : ∀ b, S b → X b ∧ w0.heap.size ≤ b ∧ ∃ cs, W.heap[b]? = some (.cells cs 5 (0, 0))) : Duo X w0 W' sb O A t e sb2 O2 A2 t2 e2 := by
  obtain ⟨⟨bb, vo, va, a, bb2, vo2, va2, a2, h1, h2, h3, h4⟩, hc⟩ := h
  have nods : Nods W W' := fun b cs' hb => (hg.block b (heap_lt hb) (fun k => by
    obtain ⟨_, _, cs, h5⟩ := hS b k
    rw [h5] at hb; cases hb)).trans hb
  exact ⟨⟨bb, vo, va, a, bb2, vo2, va2, a2, ⟨h1.1.same (fun b hb => hg.block b (Sown.lt h1.1 hb).1 (fun k => (h4 b (hS b k).1).2.1 hb)) nods, h1.2⟩, ⟨h2.1.same (fun b hb => hg.block b (Sown.lt h2.1 hb).1 (fun k => (h4 b (hS b k).1).2.2 hb)) nods, h2.2⟩, h3, fun b hb => ⟨Nat.lt_of_lt_of_le (h4 b hb).1 hg.size, (h4 b hb).2⟩⟩, ⟨hg.os.trans hc.os, hg.tape.trans hc.tape, hg.output.trans hc.output, Nat.le_trans hc.size hg.size, fun k hk => (hg.block k (Nat.lt_of_lt_of_le hk hc.size) (fun s => by have := (hS k s).2.1; omega)).trans (hc.block k hk)⟩⟩
theorem own_gs {S : Nat → Prop} {W W' : World} {B ty sz n : Nat} {v : Value} {xs : List Value} (h : W.ownsRow B ty sz v n xs) (hg : Gs S W W') (hS : ∀ b, v.ownBlock = some b → ¬ S b) : W'.ownsRow B ty sz v n xs := own_same h (fun k e hk => hg.block k hk (hS k e))
theorem Blk.gs {S : Nat → Prop} {W W' : World} {B : Nat} {ty : TypeId} {cs : Array Value} (h : Blk W B ty cs) (hg : Gs S W W') (hS : ¬ S B) : Blk W' B ty cs := (hg.block B h.lt hS).trans h
/-- the blocks that were lent with the edits -/
def GS (xs : Cpl) : Nat → Prop := fun b => ∃ (i : Nat) (x : Ed × Nat × Nat × Nat × Nat), xs[i]? = some x ∧ (b = x.2.1 ∨ b = x.2.2.2.1)
theorem GS.five {W : World} {B : Nat} {xs : Cpl} (h : Cq W B xs) {b : Nat} (hb : GS xs b) : (∃ cs, W.heap[b]? = some (.cells cs 5 (0, 0))) ∧ B ≤ b ∧ b < W.heap.size := by
  obtain ⟨i, x, hx, rfl | rfl⟩ := hb
  · exact ⟨ln_block (h.each i x hx).1, (h.each i x hx).1.lt⟩
  · exact ⟨ln_block (h.each i x hx).2.1, (h.each i x hx).2.1.lt⟩
/-- copied edits from one on, the ones ahead of it written over -/
def Cqf (W : World) (B : Nat) (xs : Cpl) (i : Nat) : Prop := ∀ (k : Nat) (x : Ed × Nat × Nat × Nat × Nat), xs[k]? = some x → i ≤ k → Ln W B x.2.1 x.2.2.1 x.1.old ∧ Ln W B x.2.2.2.1 x.2.2.2.2 x.1.new
theorem Cqf.grown {W V V' : World} {B : Nat} {xs : Cpl} {i g : Nat} (hq : Cq W B xs) (h : Cqf V B xs (i + 1)) {x : Ed × Nat × Nat × Nat × Nat} (hx : xs[i]? = some x) (hg : V.grownBy V' (some g)) (h2 : g = x.2.1 ∨ g = x.2.2.2.1) : Cqf V' B xs (i + 1) := by
  intro k y hy hk
  obtain ⟨k1, k2⟩ := h k y hy hk
  have hi := hq.inc i k x y (by omega) hx hy
  have e1 := (hq.each i x hx).2.2
  have e2 := (hq.each k y hy).2.2
  refine ⟨k1.same (hg.block _ k1.lt.2 (fun e => ?_)), k2.same (hg.block _ k2.lt.2 (fun e => ?_))⟩ <;> (simp at e; rcases h2 with h2 | h2 <;> omega)
theorem Cqf.next {V : World} {B : Nat} {xs : Cpl} {i : Nat} (h : Cqf V B xs i) : Cqf V B xs (i + 1) := fun k x hx hk => h k x hx (by omega)
theorem Cqf.keep {V V' : World} {B : Nat} {xs : Cpl} {i : Nat} (h : Cqf V B xs i) (hb : Below V.heap.size V V') : Cqf V' B xs i := fun k x hx hk => ⟨(h k x hx hk).1.keep hb, (h k x hx hk).2.keep hb⟩
/-- the copied edits, as a sheet's Apply reads them, wherever their blocks hold -/
theorem cq_edk {W : World} {B n c : Nat} {ao : Option Addr} {xs : Cpl} {K : List (Nat × Obj)} (hc : Cq W B xs) (hr : W.ownsRow B 83 3 (.slice ao n c) n (edcs xs)) (hn : n = xs.length) (hK : ∀ b o, W.heap[b]? = some o → B ≤ b → (b, o) ∈ K) : EdK K ao (xs.map (·.1)) := by
  intro i d hd
  obtain ⟨x, hx, rfl⟩ : ∃ x, xs[i]? = some x ∧ x.1 = d := by
    rw [List.getElem?_map] at hd
    exact Option.map_eq_some_iff.1 hd
  obtain ⟨h1, h2, h3⟩ := hc.each i x hx
  have hi : i < xs.length := (List.getElem?_eq_some_iff.1 hx).1
  have same : ∀ {W' : World}, Held K W' → ∀ g, B ≤ g → g < W.heap.size → W'.heap[g]? = W.heap[g]? := fun {W'} hH g hB hg => by
    have e : W.heap[g]? = some W.heap[g] := Array.getElem?_eq_getElem hg
    rw [e]; exact hH _ (hK g _ e hB)
  obtain ⟨gp, rfl⟩ := own_pos hr (by omega)
  refine ⟨gp, 0, some ⟨x.2.1, 0, none⟩, x.2.2.1, some ⟨x.2.2.2.1, 0, none⟩, x.2.2.2.2, rfl, fun W' hH => ?_⟩
  have hr' : W'.ownsRow B 83 3 (.slice (some ⟨gp, 0, none⟩) n c) n (edcs xs) := own_same hr (fun k e hk => same hH k (hr.lt k e).1 hk)
  have hcell : ∀ j, j < 3 → W'.cell? ⟨gp, i * 3 + j, none⟩ = (edc x.1 x.2)[j]? := fun j hj => by
    rw [hr'.cellAt (i * 3 + j) (by omega)]; exact edcs_at xs i x hx j hj
  have c0 := hcell 0 (by omega)
  have c1 := hcell 1 (by omega)
  have c2 := hcell 2 (by omega)
  simp only [edc, List.getElem?_cons_zero, List.getElem?_cons_succ, Nat.add_zero] at c0 c1 c2
  refine ⟨by rw [Nat.zero_add]; exact c0, by rw [Nat.zero_add]; exact c1, by rw [Nat.zero_add]; exact c2, lent_rd (h1.same (same hH _ h1.lt.1 h1.lt.2)), lent_rd (h2.same (same hH _ h2.lt.1 h2.lt.2))⟩

end Go.Proofs.YtmhpeppbhjpkiaaGreat

