/- quoinlaw04.sameRows. -/
import Derived.Test.YtmhpeppbhjpkiaaGreatPm35
import Derived.Test.YtmhpeppbhjpkiaaGreatPm44
namespace Go.Proofs.YtmhpeppbhjpkiaaGreat
open Go.RowKit

set_option maxHeartbeats 4000000 in
theorem sameRows4_any (a1 : Option Addr) (c1 : Nat) (a2 : Option Addr) (c2 B1 B2 n : Nat) (L : List Rw) (w : World) (hz : n ≤ 1048576) (hL : Hid (L.length = n)) (h1 : Hid (w.ownsRow B1 128 10 (.slice a1 n c1) n (rcells L))) (h2 : Hid (w.ownsRow B2 128 10 (.slice a2 n c2) n (rcells L))) :
    Calls Tryz.prog 41 #[.slice a1 n c1, .slice a2 n c2] w fun e w' => e = .returned (.bool true) ∧ Below w.heap.size w w' := by
  go_enter Tryz.func41, Tryz.ntmps41
  go_wp2
  go_loopw [13] (fun i wq => ∃ m : Nat, m ≤ n ∧ i = .int .i64 m ∧ Below w.heap.size w wq) (fun i _ => n - (intOf i).toNat)
  case atStart => exact ⟨0, Nat.zero_le _, rfl, Below.refl _ _⟩
  case round =>
    obtain ⟨m, hm, rfl, hb⟩ := hrel
    have HB : Hid (Below w.heap.size w wr) := hb
    clear hb
    by_cases hmt : m < n
    · have hl := hL.out
      obtain ⟨p, hp⟩ : ∃ p, L[m]? = some p := ⟨_, List.getElem?_eq_getElem (by omega)⟩
      obtain ⟨g1, e1, r0, r1, r2, r3, r4, r5, r6, r7, r8, r9⟩ := own_ten h1.out hp hl
      obtain ⟨g2, e2, q0, q1, q2, q3, q4, q5, q6, q7, q8, q9⟩ := own_ten h2.out hp hl
      subst e1 e2
      have kk := bcell HB.out
      have hg1 : g1 < w.heap.size := (h1.out.lt g1 rfl).2
      have hg2 : g2 < w.heap.size := (h2.out.lt g2 rfl).2
      have k1 := fun o => kk.1 g1 o hg1
      have k2 := fun o => kk.1 g2 o hg2
      rw [← k1] at r0 r1 r2 r3 r4 r5 r6 r7 r8 r9
      rw [← k2] at q0 q1 q2 q3 q4 q5 q6 q7 q8 q9
      obtain ⟨⟨s, o, l, nn⟩, b1, b2, b3, x1, x2, x3⟩ := p
      simp only at r0 r1 r2 r3 r4 r5 r6 r7 r8 r9 q0 q1 q2 q3 q4 q5 q6 q7 q8 q9
      have hm0 : (0 : Int) ≤ (m : Int) := by omega
      have hml : (m : Int) < (n : Int) := by omega
      clear hp hl kk k1 k2
      go_wp2
      go_region
      go_wp2
      go_roundw
      case rel => exact ⟨m + 1, by omega, by go_num, HB.out.drew⟩
      case measure => simp [intOf]; omega
    · obtain rfl : m = n := by omega
      go_wp2
      go_ret
      exact ⟨rfl, HB.out⟩
end Go.Proofs.YtmhpeppbhjpkiaaGreat

/- The law's shown. -/
namespace Go.Proofs.YtmhpeppbhjpkiaaGreat
open Go.RowKit

variable {K : List (Nat × Obj)}
theorem LzT.sht {w0 W : World} {sb : Nat} {O A : List UInt8} {t : Tr} {e : Int} (h : LzT K w0 W sb O A t e) : ∃ bb vo va a, Sh W w0.heap.size sb bb vo va O A t a e ∧ t.whole ∧ Gds O A t.list := by
  obtain ⟨⟨bb, vo, va, a, h1, h2, h3⟩, hb⟩ := h
  exact ⟨bb, vo, va, a, h1, h2.1.1, h3⟩
set_option maxRecDepth 8000 in
set_option maxHeartbeats 4000000 in
theorem shown_any (w0 W : World) (sb : Nat) (a0 a1 ar : Option Addr) (c0 c1 cr : Nat) (E : Int) (O A : List UInt8) (base : Nat) (t : Tr) (hL : Hid (LzT K w0 W sb O A t E)) (KK : Hid (Ko W base a0 c0 a1 c1 ar cr O A t)) (hs : Hid (t.size ≤ 524287)) (hz : Hid ((txt O A t.list).length ≤ 1048576)) :
    Calls Tryz.prog 12 #[.pointer (some ⟨sb, 0, none⟩), .agg #[.slice a0 O.length c0, .slice a1 A.length c1, .slice ar t.size cr, .int .i64 E]] W fun e w' => e = .returned (.bool true) ∧ Below W.heap.size W w' := by
  obtain ⟨bb, vo, va, a, hSh, hwt, hgt⟩ := hL.out.sht
  have HSH := Hid.mk' hSh
  have HG := Hid.mk' hgt
  have hf : Hid t.fits := (Tr.fits_list t).2 (fun p hp => (hgt p hp).fit)
  have B0 := Hid.mk' (bAlloc (Below.refl _ W) (.cells #[.slice a0 O.length c0, .slice a1 A.length c1, .slice ar t.size cr, .int .i64 E] 31))
  have Z0 := Hid.mk' (Blk.new W 31 #[.slice a0 O.length c0, .slice a1 A.length c1, .slice ar t.size cr, .int .i64 E])
  have D1 := Hid.mk' (rText_any a0 a1 ar c0 c1 cr E O A base t _ (KK.out.keep B0.out) HG hs hz)
  have hby : Hid (t.byt = ((txt O A t.list).length : Int)) := byt_txt hgt
  have C14 := Hid.mk' (fun W' (h : Below W.heap.size W W') => Bytes_any' sb bb vo va O A t a E w0.heap.size W' (hSh.keep h) hwt hgt hz.out)
  have C39 := Hid.mk' (fun W' (h : Below W.heap.size W W') => sLen_any (some ⟨sb, 0, none⟩) a E t W' (hSh.keep h).sht (hSh.keep h).tree)
  have C16 := Hid.mk' (fun W' (h : Below W.heap.size W W') => edits_any (some ⟨sb, 0, none⟩) a E W' (hSh.keep h).sht)
  have C15 := Hid.mk' (fun W' (h : Below W.heap.size W W') => Pieces_any (some ⟨sb, 0, none⟩) a E t W' (hSh.keep h).sht (hSh.keep h).tree (by have := hs.out; omega))
  have C23 := Hid.mk' (fun W' (h : Below W.heap.size W W') => rPieces_any a0 a1 ar c0 c1 cr E O A base t W' (KK.out.keep h) hf hs)
  have C17 := Hid.mk' (fun W' (h : Below W.heap.size W W') => sRows_any (some ⟨sb, 0, none⟩) a E t W' (hSh.keep h).sht (hSh.keep h).tree (show Hid (t.size ≤ 2097152) by unfold Hid; have := hs.out; omega))
  rw [hby.out] at C39
  have hTn : Hid ((txt O A t.list).length ≤ 1048576) := hz
  generalize txt O A t.list = T at *
  clear hSh hwt hgt hby
  go_enter Tryz.func12, Tryz.ntmps12
  go_wp2_with fail
  refine D1.out.mono ?_
  rintro e w1 ⟨v, rfl, hv, hb1⟩
  have B1 := Hid.mk' (bT B0.out hb1)
  have Z1 := Hid.mk' (Z0.out.keep hb1)
  obtain ⟨xv, dv, ev⟩ := own_shape' hv
  subst ev
  have RV : Hid (∀ W', Below w1.heap.size w1 W' → Ab.Rd W' (.slice xv T.length dv) T) := by unfold Hid; intro W' h; exact (Ab.own_rd hv).keep h
  clear hv hb1 D1 Z0 B0
  have hS2 : Hid (∀ {w' : World}, Below w1.heap.size w1 w' → w'.cell? ⟨W.heap.size, 0, none⟩ = some (.slice a0 O.length c0) ∧ w'.cell? ⟨W.heap.size, 1, none⟩ = some (.slice a1 A.length c1) ∧ w'.cell? ⟨W.heap.size, 2, none⟩ = some (.slice ar t.size cr) ∧ w'.cell? ⟨W.heap.size, 3, none⟩ = some (.int .i64 E)) := by
    unfold Hid; intro w' hb
    have Z := Z1.out.keep hb
    exact ⟨Z.cell (j := 0) rfl, Z.cell (j := 1) rfl, Z.cell (j := 2) rfl, Z.cell (j := 3) rfl⟩
  obtain ⟨z0, z1, z2, z3⟩ := hS2.out (Below.refl _ _)
  have KR : Hid (∀ W', Below w1.heap.size w1 W' → W'.ownsRow base 128 10 (.slice ar t.size cr) t.size (rcells (rowsT t))) := by unfold Hid; intro W' h; exact own_keep' KK.out.r (bT B1.out h)
  replace C14 := Hid.mk' (fun W' h => C14.out W' (bT B1.out h))
  replace C39 := Hid.mk' (fun W' h => C39.out W' (bT B1.out h))
  replace C16 := Hid.mk' (fun W' h => C16.out W' (bT B1.out h))
  replace C15 := Hid.mk' (fun W' h => C15.out W' (bT B1.out h))
  replace C23 := Hid.mk' (fun W' h => C23.out W' (bT B1.out h))
  replace C17 := Hid.mk' (fun W' h => C17.out W' (bT B1.out h))
  go_wp2_with fail
  go_region_held3 (fun w' => w'.cell? ⟨W.heap.size, 0, none⟩ = some (.slice a0 O.length c0) ∧ w'.cell? ⟨W.heap.size, 1, none⟩ = some (.slice a1 A.length c1) ∧ w'.cell? ⟨W.heap.size, 2, none⟩ = some (.slice ar t.size cr) ∧ w'.cell? ⟨W.heap.size, 3, none⟩ = some (.int .i64 E)) (first | (with_reducible exact hS2.out B41.out) | (with_reducible exact hS2.out B41.out.drew) | (with_reducible exact hS2.out B17.out) | (with_reducible exact hS2.out B17.out.drew) | (with_reducible exact hS2.out B40.out) | (with_reducible exact hS2.out B40.out.drew) | (with_reducible exact hS2.out B23.out) | (with_reducible exact hS2.out B23.out.drew) | (with_reducible exact hS2.out B15.out) | (with_reducible exact hS2.out B15.out.drew) | (with_reducible exact hS2.out B16.out) | (with_reducible exact hS2.out B16.out.drew) | (with_reducible exact hS2.out B39.out) | (with_reducible exact hS2.out B39.out.drew) | (with_reducible exact hS2.out B26.out) | (with_reducible exact hS2.out B26.out.drew) | (with_reducible exact hS2.out B14.out) | (with_reducible exact hS2.out B14.out.drew) | (with_reducible exact hS2.out (Below.refl _ _)) | (with_reducible exact hS2.out (Below.refl _ _).drew) | assumption) (first | (go_at_call 14; refine (C14.out _ (by first | exact B41.out | exact B41.out.drew | exact B17.out | exact B17.out.drew | exact B40.out | exact B40.out.drew | exact B23.out | exact B23.out.drew | exact B15.out | exact B15.out.drew | exact B16.out | exact B16.out.drew | exact B39.out | exact B39.out.drew | exact B26.out | exact B26.out.drew | exact B14.out | exact B14.out.drew | exact Below.refl _ _ | exact (Below.refl _ _).drew)).mono ?_; rintro e9 w14 ⟨v14, rfl, r14, b14⟩; have B14 := Hid.mk' (bT (show Below w1.heap.size w1 _ by first  | exact Below.refl _ _ | exact (Below.refl _ _).drew) b14); have R14 := Hid.mk' r14; clear r14 b14) | (go_at_call 26; refine (same_yes _ _ T _ (by first | exact R14.out | exact R14.out.keep (Below.refl _ _).drew) (RV.out _ (by first | exact B41.out | exact B41.out.drew | exact B17.out | exact B17.out.drew | exact B40.out | exact B40.out.drew | exact B23.out | exact B23.out.drew | exact B15.out | exact B15.out.drew | exact B16.out | exact B16.out.drew | exact B39.out | exact B39.out.drew | exact B26.out | exact B26.out.drew | exact B14.out | exact B14.out.drew | exact Below.refl _ _ | exact (Below.refl _ _).drew))).mono ?_; rintro e9 w26 ⟨rfl, b26⟩; have B26 := Hid.mk' (bT (show Below w1.heap.size w1 _ by first | exact B14.out | exact B14.out.drew | exact Below.refl _ _ | exact (Below.refl _ _).drew) b26); clear b26) | (go_at_call 39; refine (C39.out _ (by first | exact B41.out | exact B41.out.drew | exact B17.out | exact B17.out.drew | exact B40.out | exact B40.out.drew | exact B23.out | exact B23.out.drew | exact B15.out | exact B15.out.drew | exact B16.out | exact B16.out.drew | exact B39.out | exact B39.out.drew | exact B26.out | exact B26.out.drew | exact B14.out | exact B14.out.drew | exact Below.refl _ _ | exact (Below.refl _ _).drew)).mono ?_; rintro e9 w39 ⟨rfl, b39⟩; have B39 := Hid.mk' (bT (show Below w1.heap.size w1 _ by first | exact B26.out | exact B26.out.drew | exact B14.out | exact B14.out.drew | exact Below.refl _ _ | exact (Below.refl _ _).drew) b39); clear b39) | (go_at_call 16; refine (C16.out _ (by first | exact B41.out | exact B41.out.drew | exact B17.out | exact B17.out.drew | exact B40.out | exact B40.out.drew | exact B23.out | exact B23.out.drew | exact B15.out | exact B15.out.drew | exact B16.out | exact B16.out.drew | exact B39.out | exact B39.out.drew | exact B26.out | exact B26.out.drew | exact B14.out | exact B14.out.drew | exact Below.refl _ _ | exact (Below.refl _ _).drew)).mono ?_; rintro e9 w16 ⟨rfl, b16⟩; have B16 := Hid.mk' (bT (show Below w1.heap.size w1 _ by first | exact B39.out | exact B39.out.drew | exact B26.out | exact B26.out.drew | exact B14.out | exact B14.out.drew | exact Below.refl _ _ | exact (Below.refl _ _).drew) b16); clear b16) | (go_at_call 15; refine (C15.out _ (by first | exact B41.out | exact B41.out.drew | exact B17.out | exact B17.out.drew | exact B40.out | exact B40.out.drew | exact B23.out | exact B23.out.drew | exact B15.out | exact B15.out.drew | exact B16.out | exact B16.out.drew | exact B39.out | exact B39.out.drew | exact B26.out | exact B26.out.drew | exact B14.out | exact B14.out.drew | exact Below.refl _ _ | exact (Below.refl _ _).drew)).mono ?_; rintro e9 w15 ⟨x15, d15, rfl, o15, b15⟩; have B15 := Hid.mk' (bT (show Below w1.heap.size w1 _ by first | exact B16.out | exact B16.out.drew | exact B39.out | exact B39.out.drew | exact B26.out | exact B26.out.drew | exact B14.out | exact B14.out.drew | exact Below.refl _ _ | exact (Below.refl _ _).drew) b15); have O15 := Hid.mk' o15; clear o15 b15) | (go_at_call 23; refine (C23.out _ (by first | exact B41.out | exact B41.out.drew | exact B17.out | exact B17.out.drew | exact B40.out | exact B40.out.drew | exact B23.out | exact B23.out.drew | exact B15.out | exact B15.out.drew | exact B16.out | exact B16.out.drew | exact B39.out | exact B39.out.drew | exact B26.out | exact B26.out.drew | exact B14.out | exact B14.out.drew | exact Below.refl _ _ | exact (Below.refl _ _).drew)).mono ?_; rintro e9 w23 ⟨l23, rfl, o23, b23⟩; have B23 := Hid.mk' (bT (show Below w1.heap.size w1 _ by first | exact B15.out | exact B15.out.drew | exact B16.out | exact B16.out.drew | exact B39.out | exact B39.out.drew | exact B26.out | exact B26.out.drew | exact B14.out | exact B14.out.drew | exact Below.refl _ _ | exact (Below.refl _ _).drew) b23); have O23 := Hid.mk' o23; have O15b := Hid.mk' (fun W' (hb : Below w23.heap.size w23 W') => own_keep' (own_keep' O15.out (by first | exact b23 | exact bTl (Below.refl _ _).drew b23)) hb); obtain ⟨x23, d23, e23⟩ := own_shape' o23; subst e23; clear o23 b23) | (go_at_call 40; refine (sameSpans_any x15 d15 x23 d23 _ _ t.size t.list t.list _ (by have := hs.out; omega) (Tr.size_list t) rfl (O15b.out _ (by first | exact Below.refl _ _ | exact (Below.refl _ _).drew)) (own_keep' O23.out (by first | exact Below.refl _ _ | exact (Below.refl _ _).drew))).mono ?_; rintro e9 w40 ⟨rfl, b40⟩; have B40 := Hid.mk' (bT (show Below w1.heap.size w1 _ by first | exact B23.out | exact B23.out.drew | exact B15.out | exact B15.out.drew | exact B16.out | exact B16.out.drew | exact B39.out | exact B39.out.drew | exact B26.out | exact B26.out.drew | exact B14.out | exact B14.out.drew | exact Below.refl _ _ | exact (Below.refl _ _).drew) b40); clear b40) | (go_at_call 17; refine (C17.out _ (by first | exact B41.out | exact B41.out.drew | exact B17.out | exact B17.out.drew | exact B40.out | exact B40.out.drew | exact B23.out | exact B23.out.drew | exact B15.out | exact B15.out.drew | exact B16.out | exact B16.out.drew | exact B39.out | exact B39.out.drew | exact B26.out | exact B26.out.drew | exact B14.out | exact B14.out.drew | exact Below.refl _ _ | exact (Below.refl _ _).drew)).mono ?_; rintro e9 w17 ⟨x17, d17, rfl, o17, b17⟩; have B17 := Hid.mk' (bT (show Below w1.heap.size w1 _ by first | exact B40.out | exact B40.out.drew | exact B23.out | exact B23.out.drew | exact B15.out | exact B15.out.drew | exact B16.out | exact B16.out.drew | exact B39.out | exact B39.out.drew | exact B26.out | exact B26.out.drew | exact B14.out | exact B14.out.drew | exact Below.refl _ _ | exact (Below.refl _ _).drew) b17); have O17 := Hid.mk' o17; clear o17 b17) | (go_at_call 41; refine (sameRows4_any x17 d17 ar cr _ _ t.size (rowsT t) _ (by have := hs.out; omega) (rowsT_length t) (own_keep' O17.out (by first | exact Below.refl _ _ | exact (Below.refl _ _).drew)) (KR.out _ (by first | exact B41.out | exact B41.out.drew | exact B17.out | exact B17.out.drew | exact B40.out | exact B40.out.drew | exact B23.out | exact B23.out.drew | exact B15.out | exact B15.out.drew | exact B16.out | exact B16.out.drew | exact B39.out | exact B39.out.drew | exact B26.out | exact B26.out.drew | exact B14.out | exact B14.out.drew | exact Below.refl _ _ | exact (Below.refl _ _).drew))).mono ?_; rintro e9 w41 ⟨rfl, b41⟩; have B41 := Hid.mk' (bT (show Below w1.heap.size w1 _ by first | exact B17.out | exact B17.out.drew | exact B40.out | exact B40.out.drew | exact B23.out | exact B23.out.drew | exact B15.out | exact B15.out.drew | exact B16.out | exact B16.out.drew | exact B39.out | exact B39.out.drew | exact B26.out | exact B26.out.drew | exact B14.out | exact B14.out.drew | exact Below.refl _ _ | exact (Below.refl _ _).drew) b41); clear b41) | fail)
  all_goals
    go_wp2
    go_ret
    exact ⟨rfl, bT B1.out B41.out⟩

end Go.Proofs.YtmhpeppbhjpkiaaGreat

/- The law's copied. -/
namespace Go.Proofs.YtmhpeppbhjpkiaaGreat
open Go.RowKit

/-- bytes lent: a list of their own, two bytes behind it -/
def Ln (W : World) (B g cap : Nat) (l : List UInt8) : Prop := W.ownsRow B 5 1 (.slice (some ⟨g, 0, none⟩) (l.length + 2) cap) (l.length + 2) (Ab.bv l ++ mk2)
theorem Ln.lt {W : World} {B g cap : Nat} {l : List UInt8} (h : Ln W B g cap l) : B ≤ g ∧ g < W.heap.size := World.ownsRow.lt h g rfl
theorem Ln.same {W W' : World} {B g cap : Nat} {l : List UInt8} (h : Ln W B g cap l) (hg : W'.heap[g]? = W.heap[g]?) : Ln W' B g cap l := own_same h fun k e hk => by
  have : g = k := by simpa [Value.ownBlock] using e
  rw [← this]; exact hg
theorem Ln.keep {W W' : World} {B g cap : Nat} {l : List UInt8} (h : Ln W B g cap l) (hb : Below W.heap.size W W') : Ln W' B g cap l := h.same (hb.block g h.lt.2)
/-- the cells of an edit -/
def edc (d : Ed) (q : Nat × Nat × Nat × Nat) : List Value := [.int .i64 d.at', .slice (some ⟨q.1, 0, none⟩) d.old.length q.2.1, .slice (some ⟨q.2.2.1, 0, none⟩) d.new.length q.2.2.2]
/-- edits that were copied, each with its two lists -/
abbrev Cpl := List (Ed × Nat × Nat × Nat × Nat)
def edcs : Cpl → List Value
  | [] => []
  | x :: xs => edc x.1 x.2 ++ edcs xs
theorem edcs_snoc (xs : Cpl) (x : Ed × Nat × Nat × Nat × Nat) : edcs (xs ++ [x]) = edcs xs ++ edc x.1 x.2 := by
  induction xs with
  | nil => simp [edcs]
  | cons y ys ih => simp [edcs, ih]
theorem edcs_length (xs : Cpl) : (edcs xs).length = xs.length * 3 := by
  induction xs with
  | nil => rfl
  | cons y ys ih => simp only [edcs, edc, List.length_append, List.length_cons, List.length_nil, ih]; omega
theorem edcs_at : ∀ (xs : Cpl) (i : Nat) (x : Ed × Nat × Nat × Nat × Nat), xs[i]? = some x → ∀ j, j < 3 → (edcs xs)[i * 3 + j]? = (edc x.1 x.2)[j]?
  | y :: ys, 0, x, h, j, hj => by
    simp at h; subst h
    rw [Nat.zero_mul, Nat.zero_add]
    unfold edcs
    rw [List.getElem?_append_left (by simp [edc]; omega)]
  | y :: ys, i + 1, x, h, j, hj => by
    have ih := edcs_at ys i x (by simpa using h) j hj
    unfold edcs
    rw [List.getElem?_append_right (by simp [edc]; omega), ← ih]
    congr 1
    simp [edc]; omega
/-- edits copied: each list is lent, no two share a block -/
structure Cq (W : World) (B : Nat) (xs : Cpl) : Prop where
  each : ∀ (i : Nat) (x : Ed × Nat × Nat × Nat × Nat), xs[i]? = some x → Ln W B x.2.1 x.2.2.1 x.1.old ∧ Ln W B x.2.2.2.1 x.2.2.2.2 x.1.new ∧ x.2.1 < x.2.2.2.1
  inc : ∀ (i j : Nat) (x y : Ed × Nat × Nat × Nat × Nat), i < j → xs[i]? = some x → xs[j]? = some y → x.2.2.2.1 < y.2.1
theorem Cq.keep {W W' : World} {B : Nat} {xs : Cpl} (h : Cq W B xs) (hb : Below W.heap.size W W') : Cq W' B xs := ⟨fun i x hx => by
  obtain ⟨h1, h2, h3⟩ := h.each i x hx
  exact ⟨h1.keep hb, h2.keep hb, h3⟩, h.inc⟩
theorem Cq.same {W W' : World} {B : Nat} {xs : Cpl} (h : Cq W B xs) (hb : ∀ (g : Nat) (cs : Array Value), W.heap[g]? = some (.cells cs 5 (0, 0)) → W'.heap[g]? = W.heap[g]?) : Cq W' B xs := ⟨fun i x hx => by
  obtain ⟨h1, h2, h3⟩ := h.each i x hx
  have aux : ∀ {g cap : Nat} {l : List UInt8}, Ln W B g cap l → Ln W' B g cap l := fun {g cap l} hl => hl.same (by
    rcases hl.2 with ⟨h0, _⟩ | ⟨k, cp, cur, hv, _, hg, _⟩
    · simp at h0
    · simp at hv
      obtain ⟨rfl, _⟩ := hv
      exact hb _ _ hg)
  exact ⟨aux h1, aux h2, h3⟩, h.inc⟩
theorem Cq.snoc {W : World} {B : Nat} {xs : Cpl} {x : Ed × Nat × Nat × Nat × Nat} (h : Cq W B xs) (h1 : Ln W B x.2.1 x.2.2.1 x.1.old) (h2 : Ln W B x.2.2.2.1 x.2.2.2.2 x.1.new) (h3 : x.2.1 < x.2.2.2.1) {S : Nat} (hS : ∀ (i : Nat) (y : Ed × Nat × Nat × Nat × Nat), xs[i]? = some y → y.2.2.2.1 < S) (hx : S ≤ x.2.1) : Cq W B (xs ++ [x]) := by
  refine ⟨fun i y hy => ?_, fun i j y z hij hy hz => ?_⟩
  · rcases Nat.lt_or_ge i xs.length with hi | hi
    · rw [List.getElem?_append_left hi] at hy; exact h.each i y hy
    · rw [List.getElem?_append_right hi] at hy
      obtain ⟨a, b⟩ := List.getElem?_eq_some_iff.1 hy
      simp at a
      obtain rfl : i = xs.length := by omega
      simp at hy; subst hy
      exact ⟨h1, h2, h3⟩
  · have hi : i < xs.length := by
      rcases Nat.lt_or_ge i xs.length with hi | hi
      · exact hi
      · have := (List.getElem?_eq_some_iff.1 hz).1
        simp at this; omega
    rw [List.getElem?_append_left hi] at hy
    rcases Nat.lt_or_ge j xs.length with hj | hj
    · rw [List.getElem?_append_left hj] at hz; exact h.inc i j y z hij hy hz
    · rw [List.getElem?_append_right hj] at hz
      have a := (List.getElem?_eq_some_iff.1 hz).1
      simp at a
      obtain rfl : j = xs.length := by omega
      simp at hz; subst hz
      have := hS i y hy
      omega
theorem edc_one (d : Ed) (q : Nat × Nat × Nat × Nat) : ∀ u ∈ edc d q, u.oneCell' = true := by
  intro u hu
  simp [edc] at hu
  rcases hu with rfl | rfl | rfl <;> rfl
theorem own_83 {W : World} {B n g : Nat} {v : Value} {xs : List Value} {cs : Array Value} (h : W.ownsRow B 83 3 v n xs) (hg : W.heap[g]? = some (.cells cs 5 (0, 0))) : v.ownBlock ≠ some g := by
  intro e
  rcases h.2 with ⟨h0, _⟩ | ⟨k, cap, cur, hv, _, hk, _⟩
  · rw [h0] at e; cases e
  · rw [hv] at e
    have e' : k = g := by simpa [Value.ownBlock] using e
    rw [e', hg] at hk
    cases hk
theorem ln_83 {W W' : World} {B B' n g cap : Nat} {v : Value} {xs : List Value} {l : List UInt8} (h : W.ownsRow B 83 3 v n xs) (hk : ∀ g, g < W.heap.size → v.ownBlock ≠ some g → W'.heap[g]? = W.heap[g]?) (hl : Ln W B' g cap l) : Ln W' B' g cap l := hl.same (by
  refine hk g hl.lt.2 ?_
  rcases hl.2 with ⟨h0, _⟩ | ⟨k, cp, cur, hv, _, hg, _⟩
  · simp at h0
  · simp at hv
    obtain ⟨rfl, _⟩ := hv
    exact own_83 h hg)
theorem cq_83 {W W' : World} {B B' n : Nat} {v : Value} {xs : List Value} {ys : Cpl} (h : W.ownsRow B 83 3 v n xs) (hk : ∀ g, g < W.heap.size → v.ownBlock ≠ some g → W'.heap[g]? = W.heap[g]?) (hc : Cq W B' ys) : Cq W' B' ys := ⟨fun i x hx => by
  obtain ⟨h1, h2, h3⟩ := hc.each i x hx
  exact ⟨ln_83 h hk h1, ln_83 h hk h2, h3⟩, hc.inc⟩
theorem info83 : (Tryz.prog.info? 83).map (fun i => (i.zero, i.size, i.bytes)) = some (some (.agg #[.int .i64 0, .slice none 0 0, .slice none 0 0]), 3, 56) := by kernel_rfl
set_option maxRecDepth 8000 in
set_option maxHeartbeats 4000000 in
theorem copied_any (ao : Option Addr) (c : Nat) (es : List Ed) (w : World) (hE : Hid (Eds w ao es)) (hm : es.length ≤ 1048576) (hlen : Hid (∀ d ∈ es, d.old.length ≤ 1048576 ∧ d.new.length ≤ 1048576)) :
    Calls Tryz.prog 36 #[.slice ao es.length c] w fun e w' => ∃ (v : Value) (xs : Cpl), e = .returned v ∧ xs.map (·.1) = es ∧ w'.ownsRow w.heap.size 83 3 v es.length (edcs xs) ∧ Cq w' w.heap.size xs ∧ Below w.heap.size w w' := by
  obtain ⟨i8, hi8, hz8, hs8, hb8⟩ := info_parts info83
  have hmI : (es.length : Int) ≤ 1048576 := by omega
  go_enter Tryz.func36, Tryz.ntmps36
  go_wp2_with fail
  go_loopw [3, 5, 8] (fun u _ x wr => ∃ (k : Nat) (xs : Cpl), x = .int .i64 k ∧ k ≤ es.length ∧ xs.map (·.1) = es.take k ∧ wr.ownsRow w.heap.size 83 3 u k (edcs xs) ∧ Cq wr w.heap.size xs ∧ Below w.heap.size w wr) (fun _ _ x _ => es.length - (intOf x).toNat)
  case atStart => exact ⟨0, [], rfl, Nat.zero_le _, rfl, World.ownsRow_nil _ _ _ _, ⟨fun i x h => by simp at h, fun i j x y _ h => by simp at h⟩, Below.refl _ _⟩
  case round =>
    obtain ⟨k, xs, rfl, hk, hxs, hown, hcq, hb⟩ := hrel
    have HX := Hid.mk' hxs
    have HO := Hid.mk' hown
    have HC := Hid.mk' hcq
    have HB := Hid.mk' hb
    obtain ⟨ax, cx, hux⟩ := own_shape' hown
    subst hux
    clear hxs hown hcq hb
    have hk0 : (0 : Int) ≤ (k : Int) := by omega
    by_cases hlt : k < es.length
    · obtain ⟨d, hd⟩ : ∃ d, es[k]? = some d := ⟨es[k], List.getElem?_eq_getElem hlt⟩
      have HD := Hid.mk' hd
      obtain ⟨g, o, p1, pq1, p2, pq2, rfl, z0, z1, z2, r1, r2⟩ := hE.out.cells k d hd
      have s0 : wr.cell? ⟨g, o + k * 3, none⟩ = some (.int .i64 d.at') := by rw [HB.out.cell (lt_cell z0)]; exact z0
      have s1 : wr.cell? ⟨g, o + k * 3 + 1, none⟩ = some (.slice p1 d.old.length pq1) := by rw [HB.out.cell (lt_cell z1)]; exact z1
      have s2 : wr.cell? ⟨g, o + k * 3 + 2, none⟩ = some (.slice p2 d.new.length pq2) := by rw [HB.out.cell (lt_cell z2)]; exact z2
      have hdl := Hid.mk' (hlen.out d (List.mem_of_getElem? hd))
      have hkI : (k : Int) < (es.length : Int) := by omega
      have Y0 := Hid.mk' (Blk.new wr 83 #[.int .i64 d.at', .slice p1 d.old.length pq1, .slice p2 d.new.length pq2])
      obtain ⟨w1, hw1⟩ : ∃ w1, w1 = wr.alloc (.cells #[.int .i64 d.at', .slice p1 d.old.length pq1, .slice p2 d.new.length pq2] 83) := ⟨_, rfl⟩
      have B1 : Hid (Below wr.heap.size wr w1) := by unfold Hid; rw [hw1]; exact bAlloc (Below.refl _ _) _
      have L1 := Hid.mk' (fun W' (h : Below w1.heap.size w1 W') => lent_any p1 pq1 d.old W' (by have := hdl.out; omega) (r1.keep (bT (bT HB.out B1.out) h)))
      have L2 := Hid.mk' (fun W' (h : Below w1.heap.size w1 W') => lent_any p2 pq2 d.new W' (by have := hdl.out; omega) (r2.keep (bT (bT HB.out B1.out) h)))
      clear z0 z1 z2 r1 r2 hd
      go_upto_region 5 with fail
      rw [← hw1] at Y0 ⊢
      clear hw1
      have hS2 : Hid (∀ {w' : World}, Below w1.heap.size w1 w' → w'.cell? ⟨wr.heap.size, 0, none⟩ = some (.int .i64 d.at') ∧ w'.cell? ⟨wr.heap.size, 1, none⟩ = some (.slice p1 d.old.length pq1) ∧ w'.cell? ⟨wr.heap.size, 2, none⟩ = some (.slice p2 d.new.length pq2)) := by
        unfold Hid; intro w' hb
        have Z := Y0.out.keep hb
        exact ⟨Z.cell (j := 0) rfl, Z.cell (j := 1) rfl, Z.cell (j := 2) rfl⟩
      obtain ⟨y0, y1, y2⟩ := hS2.out (Below.refl _ _)
      go_region_held3 (fun w' => w'.cell? ⟨wr.heap.size, 0, none⟩ = some (.int .i64 d.at') ∧ w'.cell? ⟨wr.heap.size, 1, none⟩ = some (.slice p1 d.old.length pq1) ∧ w'.cell? ⟨wr.heap.size, 2, none⟩ = some (.slice p2 d.new.length pq2)) (first | assumption | (with_reducible exact hS2.out (Below.refl _ _).drew) | (with_reducible exact hS2.out B9.out) | (with_reducible exact hS2.out B3.out) | (with_reducible exact hS2.out B2.out) | (with_reducible exact hS2.out (bAlloc B3.out _)) | (with_reducible exact hS2.out (bAlloc B3.out _).drew))
        (first | (go_at_call_of 5 (Value.slice p1 d.old.length pq1); refine (L1.out _ (by first | exact Below.refl _ _ | exact (Below.refl _ _).drew)).mono ?_; rintro e9 w2 ⟨g1, cp1, rfl, o2, b2⟩; have B2 := Hid.mk' (show Below w1.heap.size w1 w2 by first | exact bD b2 | exact b2); have O2 := Hid.mk' (show Ln w2 w1.heap.size g1 cp1 d.old from o2); clear o2 b2)
               | (go_at_call_of 5 (Value.slice p2 d.new.length pq2); refine (L2.out _ (by first | exact B2.out | exact B2.out.drew)).mono ?_; rintro e9 w3 ⟨g2, cp2, rfl, o3, b3⟩; have b3' := (show Below w2.heap.size w2 w3 by first | exact bD b3 | exact b3); have B3 := Hid.mk' (bT B2.out b3'); have O3 := Hid.mk' (show Ln w3 w2.heap.size g2 cp2 d.new from o3); have O2b := Hid.mk' (O2.out.keep b3'); have g12 := Hid.mk' (Nat.lt_of_lt_of_le O2.out.lt.2 O3.out.lt.1); have OW := Hid.mk' (own_keep' HO.out (bT B1.out B3.out)); clear o3 b3 b3')
               | (refine step_append_lies _ (by rfl) (.tmp 12) (.tmp 22) 33 (by rfl) w.heap.size 83 i8 (.agg #[.int .i64 0, .slice none 0 0, .slice none 0 0]) 3 56 Tryz.underlying33 hi8 hz8 hs8 hb8 (by rfl) (by decide) (.slice ax k cx) k (edcs xs) (by rfl) (by first | exact OW.out.alloc _ | exact own_drew (OW.out.alloc _)) ⟨w3.heap.size, 0, none⟩ 1 1 (edc d (g1, cp1, g2, cp2)) (by rfl) (by rfl) (World.news_of_block (heap_alloc_new w3 _)) (edc_one _ _) (by decide) (by unfold maxLen; omega) (by omega) (by have h1 := HB.out.size; have h2 := B1.out.size; have h3 := B3.out.size; simp; omega) (w3.heap.size + 1) (by simp) ?_; intro g9 cap9 w9 hown9 hgrow9 hat9 hlt9; have HO9 := Hid.mk' hown9; have GB := Hid.mk' (show ∀ q, q < w3.heap.size → (Value.slice ax k cx).ownBlock ≠ some q → w9.heap[q]? = w3.heap[q]? from fun q hq hn => (hgrow9.block q (by simp; omega) (fun e => hn e.symm)).trans ((bAlloc (Below.refl _ w3) _).block q hq)); have S9 : w9.cell? ⟨wr.heap.size, 0, none⟩ = some (.int .i64 d.at') ∧ w9.cell? ⟨wr.heap.size, 1, none⟩ = some (.slice p1 d.old.length pq1) ∧ w9.cell? ⟨wr.heap.size, 2, none⟩ = some (.slice p2 d.new.length pq2) := (by have hz1 := Y0.out.lt; have hz2 := B3.out.size; have Z := Y0.out.keep B3.out; have Z9 : Blk w9 wr.heap.size 83 #[.int .i64 d.at', .slice p1 d.old.length pq1, .slice p2 d.new.length pq2] := (by unfold Blk at Z ⊢; rw [GB.out _ (by omega) (fun e => by have := (HO.out.lt _ e).2; omega)]; exact Z); exact ⟨Z9.cell (j := 0) rfl, Z9.cell (j := 1) rfl, Z9.cell (j := 2) rfl⟩); have B9 := Hid.mk' (show Below w.heap.size w w9 from ((bAlloc (bT (bT HB.out B1.out) B3.out) _).grown hgrow9 (by have h1 := HB.out.size; have h2 := B1.out.size; have h3 := B3.out.size; simp; omega) (fun k hk => (OW.out.lt k hk).1))))
               | fail)
      have HT1 : Hid (es.take (k + 1) = es.take k ++ [d]) := by
        unfold Hid
        obtain ⟨h1, h2⟩ := List.getElem?_eq_some_iff.1 HD.out
        rw [List.take_succ_eq_append_getElem h1, h2]
      have hC9 := Hid.mk' (cq_83 OW.out GB.out (HC.out.keep (bT B1.out B3.out)))
      have N1 := Hid.mk' (ln_83 OW.out GB.out (show Ln w3 w.heap.size g1 cp1 d.old from Rk.own_lower O2b.out (Nat.le_trans HB.out.size B1.out.size)))
      have N2 := Hid.mk' (ln_83 OW.out GB.out (show Ln w3 w.heap.size g2 cp2 d.new from Rk.own_lower O3.out (Nat.le_trans (Nat.le_trans HB.out.size B1.out.size) B2.out.size)))
      have CF : Hid (Cq w9 w.heap.size (xs ++ [(d, g1, cp1, g2, cp2)])) := hC9.out.snoc N1.out N2.out g12.out (S := wr.heap.size) (fun i y hy => (HC.out.each i y hy).2.1.lt.2) (Nat.le_trans B1.out.size O2b.out.lt.1)
      have HOF : Hid (w9.ownsRow w.heap.size 83 3 (.slice (some ⟨g9, 0, none⟩) (k + 1) cap9) (k + 1) (edcs (xs ++ [(d, g1, cp1, g2, cp2)]))) := by unfold Hid; rw [edcs_snoc]; exact HO9.out
      clear hown9 hgrow9 hat9 hlt9 S9 y0 y1 y2 s0 s1 s2
      go_wp2
      go_roundw
      case rel => exact ⟨k + 1, xs ++ [(d, g1, cp1, g2, cp2)], by go_num, by omega, by rw [List.map_append, HX.out, HT1.out]; rfl, HOF.out, CF.out, B9.out⟩
      case measure => simp [intOf]; omega
    · obtain rfl : k = es.length := by omega
      have hnl : ¬ (es.length : Int) < (es.length : Int) := by omega
      go_wp2
      go_ret
      exact ⟨_, rfl, xs, by rw [HX.out, List.take_length], HO.out, HC.out, HB.out⟩

end Go.Proofs.YtmhpeppbhjpkiaaGreat

/- Two sheets in one world, and what is apart from both. -/
namespace Go.Proofs.YtmhpeppbhjpkiaaGreat
open Go.RowKit

/-- all blocks of a world that a test lets through, with what they hold -/
def KF (P : Nat → Bool) (W : World) : List (Nat × Obj) := (List.range W.heap.size).filterMap fun b => if P b then (W.heap[b]?).map (fun o => (b, o)) else none
theorem KF.mem {P : Nat → Bool} {W : World} {p : Nat × Obj} (h : p ∈ KF P W) : W.heap[p.1]? = some p.2 ∧ P p.1 = true := by
  unfold KF at h
  obtain ⟨b, _, hb⟩ := List.mem_filterMap.1 h
  split at hb
  · rename_i hP
    obtain ⟨o, ho, rfl⟩ := Option.map_eq_some_iff.1 hb
    exact ⟨ho, hP⟩
  · cases hb
theorem KF.has {P : Nat → Bool} {W : World} {b : Nat} {o : Obj} (h : W.heap[b]? = some o) (hP : P b = true) : (b, o) ∈ KF P W := by
  unfold KF
  refine List.mem_filterMap.2 ⟨b, List.mem_range.2 (heap_lt h), ?_⟩
  rw [if_pos hP, h]
  rfl
/-- the blocks that a sheet calls its own -/
def Sown (sb bb : Nat) (vo va : Value) (b : Nat) : Prop := b = sb ∨ b = bb ∨ vo.ownBlock = some b ∨ va.ownBlock = some b
def sownB (sb bb : Nat) (vo va : Value) (b : Nat) : Bool := !(b == sb || b == bb || vo.ownBlock == some b || va.ownBlock == some b)
theorem sownB_iff {sb bb : Nat} {vo va : Value} {b : Nat} : sownB sb bb vo va b = true ↔ ¬ Sown sb bb vo va b := by
  unfold sownB Sown
  simp [not_or, and_assoc]
theorem Sown.kind {W : World} {base sb bb : Nat} {vo va : Value} {O A : List UInt8} {t : Tr} {a : Option Addr} {e : Int} (h : Sh W base sb bb vo va O A t a e) {b : Nat} {cs : Array Value} {ty : TypeId} (hb : W.heap[b]? = some (.cells cs ty (0, 0))) (ht : ty ≠ 5 ∧ ty ≠ 55 ∧ ty ≠ 94) : ¬ Sown sb bb vo va b := by
  rintro (rfl | rfl | h1 | h1)
  · rw [h.here] at hb; cases hb; exact absurd rfl ht.2.1
  · rw [h.buf.here] at hb; cases hb; exact absurd rfl ht.2.2
  · exact Ab.own_ne h.buf.orig hb ht.1 h1.symm
  · exact Ab.own_ne h.buf.added hb ht.1 h1.symm
theorem Sown.lt {W : World} {base sb bb : Nat} {vo va : Value} {O A : List UInt8} {t : Tr} {a : Option Addr} {e : Int} (h : Sh W base sb bb vo va O A t a e) {b : Nat} (hb : Sown sb bb vo va b) : b < W.heap.size ∧ base ≤ b := by
  rcases hb with rfl | rfl | h1 | h1
  · exact ⟨sh_lt h.here, h.lo⟩
  · exact ⟨sh_lt h.buf.here, h.buf.lo⟩
  · exact ⟨(h.buf.orig.lt _ h1).2, (h.buf.orig.lt _ h1).1⟩
  · exact ⟨(h.buf.added.lt _ h1).2, (h.buf.added.lt _ h1).1⟩
/-- A sheet whose blocks, and whose nodes, hold what they held. -/
theorem Sh.same {W W' : World} {base sb bb : Nat} {vo va : Value} {O A : List UInt8} {t : Tr} {a : Option Addr} {e : Int} (h : Sh W base sb bb vo va O A t a e) (hb : ∀ b, Sown sb bb vo va b → W'.heap[b]? = W.heap[b]?) (hn : Nods W W') : Sh W' base sb bb vo va O A t a e :=
  ⟨h.lo, (hb sb (.inl rfl)).trans h.here, ⟨h.buf.lo, (hb bb (.inr (.inl rfl))).trans h.buf.here, own_same h.buf.orig (fun k e _ => hb k (.inr (.inr (.inl e)))), own_same h.buf.added (fun k e _ => hb k (.inr (.inr (.inr e)))), h.buf.apart⟩, hn.at h.tree⟩
/-- Two sheets, apart from each other and from some blocks. -/
structure Duo (X : Nat → Prop) (w0 W : World) (sb : Nat) (O A : List UInt8) (t : Tr) (e : Int) (sb2 : Nat) (O2 A2 : List UInt8) (t2 : Tr) (e2 : Int) : Prop where
  ex : ∃ bb vo va a bb2 vo2 va2 a2, (Sh W w0.heap.size sb bb vo va O A t a e ∧ Wn t e ∧ Gds O A t.list) ∧ (Sh W w0.heap.size sb2 bb2 vo2 va2 O2 A2 t2 a2 e2 ∧ Wn t2 e2 ∧ Gds O2 A2 t2.list) ∧ (∀ b, Sown sb bb vo va b → ¬ Sown sb2 bb2 vo2 va2 b) ∧ ∀ b, X b → b < W.heap.size ∧ ¬ Sown sb bb vo va b ∧ ¬ Sown sb2 bb2 vo2 va2 b
  bel : Below w0.heap.size w0 W
theorem Duo.swap {X : Nat → Prop} {w0 W : World} {sb : Nat} {O A : List UInt8} {t : Tr} {e : Int} {sb2 : Nat} {O2 A2 : List UInt8} {t2 : Tr} {e2 : Int} (h : Duo X w0 W sb O A t e sb2 O2 A2 t2 e2) : Duo X w0 W sb2 O2 A2 t2 e2 sb O A t e := by
  obtain ⟨⟨bb, vo, va, a, bb2, vo2, va2, a2, h1, h2, h3, h4⟩, hb⟩ := h
  exact ⟨⟨bb2, vo2, va2, a2, bb, vo, va, a, h2, h1, fun b k1 k2 => h3 b k2 k1, fun b hb => ⟨(h4 b hb).1, (h4 b hb).2.2, (h4 b hb).2.1⟩⟩, hb⟩
theorem Duo.mono {X Y : Nat → Prop} {w0 W : World} {sb : Nat} {O A : List UInt8} {t : Tr} {e : Int} {sb2 : Nat} {O2 A2 : List UInt8} {t2 : Tr} {e2 : Int} (h : Duo X w0 W sb O A t e sb2 O2 A2 t2 e2) (hY : ∀ b, Y b → X b) : Duo Y w0 W sb O A t e sb2 O2 A2 t2 e2 := by
  obtain ⟨⟨bb, vo, va, a, bb2, vo2, va2, a2, h1, h2, h3, h4⟩, hb⟩ := h
  exact ⟨⟨bb, vo, va, a, bb2, vo2, va2, a2, h1, h2, h3, fun b hb => h4 b (hY b hb)⟩, hb⟩
/-- what others made meanwhile is apart as well -/
theorem Duo.keep {X : Nat → Prop} {w0 W W' : World} {sb : Nat} {O A : List UInt8} {t : Tr} {e : Int} {sb2 : Nat} {O2 A2 : List UInt8} {t2 : Tr} {e2 : Int} (h : Duo X w0 W sb O A t e sb2 O2 A2 t2 e2) (hb : Below W.heap.size W W') : Duo (fun b => X b ∨ (W.heap.size ≤ b ∧ b < W'.heap.size)) w0 W' sb O A t e sb2 O2 A2 t2 e2 := by
  obtain ⟨⟨bb, vo, va, a, bb2, vo2, va2, a2, h1, h2, h3, h4⟩, hc⟩ := h
  refine ⟨⟨bb, vo, va, a, bb2, vo2, va2, a2, ⟨h1.1.keep hb, h1.2⟩, ⟨h2.1.keep hb, h2.2⟩, h3, fun b hX => ?_⟩, bTl hc hb⟩
  rcases hX with hX | ⟨hX, hY⟩
  · exact ⟨Nat.lt_of_lt_of_le (h4 b hX).1 hb.size, (h4 b hX).2⟩
  · exact ⟨hY, fun k => by have := (Sown.lt h1.1 k).1; omega, fun k => by have := (Sown.lt h2.1 k).1; omega⟩
/-- Blocks that hold what they held: those, and all that are of no kind that a sheet has. -/
def Fr (X : Nat → Prop) (w0 W W' : World) : Prop := ∀ (b : Nat) (cs : Array Value) (ty : TypeId), W.heap[b]? = some (.cells cs ty (0, 0)) → (X b ∨ b < w0.heap.size ∨ (ty ≠ 5 ∧ ty ≠ 55 ∧ ty ≠ 94)) → W'.heap[b]? = some (.cells cs ty (0, 0))
theorem Fr.trans {X : Nat → Prop} {w0 a b c : World} (h : Fr X w0 a b) (k : Fr X w0 b c) : Fr X w0 a c := fun g cs ty hg ht => k g cs ty (h g cs ty hg ht) ht
theorem Fr.of_below {X : Nat → Prop} {w0 W W' : World} (h : Below W.heap.size W W') : Fr X w0 W W' := fun g _ _ hg _ => (h.block g (heap_lt hg)).trans hg
theorem Fr.mono {X Y : Nat → Prop} {w0 W W' : World} (h : Fr X w0 W W') (hY : ∀ b, Y b → X b) : Fr Y w0 W W' := fun g cs ty hg ht => h g cs ty hg (ht.imp (hY g) id)
/-- The first sheet changes: the second, and what is apart, stays. -/
theorem Duo.step {X : Nat → Prop} {w0 W : World} {sb : Nat} {O A : List UInt8} {t : Tr} {e : Int} {sb2 : Nat} {O2 A2 : List UInt8} {t2 : Tr} {e2 : Int} (h : Duo X w0 W sb O A t e sb2 O2 A2 t2 e2) : ∃ K, LzT K w0 W sb O A t e ∧ (∀ p ∈ KF (fun b => decide (b < w0.heap.size)) W, p ∈ K) ∧ (∀ b o, X b → W.heap[b]? = some o → (b, o) ∈ K) ∧ (∀ b cs ty, W.heap[b]? = some (.cells cs ty (0, 0)) → (ty ≠ 5 ∧ ty ≠ 55 ∧ ty ≠ 94) → (b, .cells cs ty (0, 0)) ∈ K) ∧ ∀ W' A' t' e', LzT K w0 W' sb O A' t' e' → Duo X w0 W' sb O A' t' e' sb2 O2 A2 t2 e2 ∧ Fr X w0 W W' := by
  obtain ⟨⟨bb, vo, va, a, bb2, vo2, va2, a2, h1, h2, h3, h4⟩, hc⟩ := h
  have kin : ∀ b o, W.heap[b]? = some o → ¬ Sown sb bb vo va b → (b, o) ∈ KF (sownB sb bb vo va) W := fun b o hb hn => KF.has hb (sownB_iff.2 hn)
  refine ⟨KF (sownB sb bb vo va) W, ⟨⟨bb, vo, va, a, h1.1, ⟨h1.2.1, fun p hp => ?_, fun p hp => ?_⟩, h1.2.2⟩, hc⟩, fun p hp => ?_, fun b o hX hb => kin b o hb (h4 b hX).2.1, fun b cs ty hb ht => kin b _ hb (Sown.kind h1.1 hb ht), fun W' A' t' e' hL => ?_⟩
  · obtain ⟨g1, g2⟩ := KF.mem hp
    have g3 := sownB_iff.1 g2
    exact ⟨g1, fun e => g3 (.inl e), fun e => g3 (.inr (.inl e)), fun e => g3 (.inr (.inr (.inr e)))⟩
  · obtain ⟨g1, g2⟩ := KF.mem hp
    have g3 := sownB_iff.1 g2
    exact fun e => g3 (.inr (.inr (.inl e)))
  · obtain ⟨g1, g2⟩ := KF.mem hp
    refine kin p.1 p.2 g1 (fun k => ?_)
    have := (Sown.lt h1.1 k).2
    have := of_decide_eq_true g2
    omega
  · obtain ⟨⟨bb', vo', va', a', s1, ⟨s2, s3, s4⟩, s5⟩, hc'⟩ := hL
    have kq : ∀ b, b < W.heap.size → ¬ Sown sb bb vo va b → W'.heap[b]? = W.heap[b]? ∧ ¬ Sown sb bb' vo' va' b := fun b hb hn => by
      have hg : W.heap[b]? = some W.heap[b] := Array.getElem?_eq_getElem hb
      obtain ⟨q1, q2, q3, q4⟩ := s3 _ (kin b _ hg hn)
      refine ⟨by rw [hg]; exact q1, ?_⟩
      rintro (k | k | k | k)
      · exact q2 k
      · exact q3 k
      · exact s4 _ (kin b _ hg hn) k
      · exact q4 k
    have nods : Nods W W' := fun b cs hb => (kq b (heap_lt hb) (Sown.kind h1.1 hb (by decide))).1.trans hb
    refine ⟨⟨⟨bb', vo', va', a', bb2, vo2, va2, a2, ⟨s1, s2, s5⟩, ⟨h2.1.same (fun b hb => (kq b (Sown.lt h2.1 hb).1 (fun k => h3 b k hb)).1) nods, h2.2⟩, fun b k1 k2 => (kq b (Sown.lt h2.1 k2).1 (fun k => h3 b k k2)).2 k1, fun b hX => ?_⟩, hc'⟩, fun b cs ty hb ht => ?_⟩
    · obtain ⟨x1, x2, x3⟩ := h4 b hX
      obtain ⟨y1, y2⟩ := kq b x1 x2
      have hg : W.heap[b]? = some W.heap[b] := Array.getElem?_eq_getElem x1
      exact ⟨heap_lt (y1.trans hg), y2, x3⟩
    · have hn : ¬ Sown sb bb vo va b := by
        rcases ht with ht | ht | ht
        · exact (h4 b ht).2.1
        · intro k; have := (Sown.lt h1.1 k).2; omega
        · exact Sown.kind h1.1 hb ht
      exact (kq b (heap_lt hb) hn).1.trans hb
/-- the first sheet, with nothing besides -/
theorem Duo.lz {X : Nat → Prop} {w0 W : World} {sb : Nat} {O A : List UInt8} {t : Tr} {e : Int} {sb2 : Nat} {O2 A2 : List UInt8} {t2 : Tr} {e2 : Int} (h : Duo X w0 W sb O A t e sb2 O2 A2 t2 e2) : LzT [] w0 W sb O A t e := by
  obtain ⟨⟨bb, vo, va, a, bb2, vo2, va2, a2, h1, h2, h3, h4⟩, hc⟩ := h
  exact ⟨⟨bb, vo, va, a, h1.1, ⟨h1.2.1, ⟨fun p hp => by simp at hp, fun p hp => by simp at hp⟩⟩, h1.2.2⟩, hc⟩
theorem Blk.fr {X : Nat → Prop} {w0 W W' : World} {B : Nat} {ty : TypeId} {cs : Array Value} (h : Blk W B ty cs) (hf : Fr X w0 W W') (ht : ty ≠ 5 ∧ ty ≠ 55 ∧ ty ≠ 94) : Blk W' B ty cs := hf _ _ _ h (.inr (.inr ht))
theorem own_fr {X : Nat → Prop} {w0 W W' : World} {B ty sz n : Nat} {v : Value} {xs : List Value} (h : W.ownsRow B ty sz v n xs) (hf : Fr X w0 W W') (ht : (∀ b, v.ownBlock = some b → X b) ∨ (ty ≠ 5 ∧ ty ≠ 55 ∧ ty ≠ 94)) : W'.ownsRow B ty sz v n xs := by
  refine ⟨h.1, ?_⟩
  rcases h.2 with h0 | ⟨g, cap, cur, hv, hb', hg, rest⟩
  · exact .inl h0
  · refine .inr ⟨g, cap, cur, hv, hb', hf _ _ _ hg ?_, rest⟩
    rcases ht with ht | ht
    · exact .inl (ht g (by rw [hv]; rfl))
    · exact .inr (.inr ht)
/-- the reference's rows of bytes -/
def Xk (a0 a1 : Option Addr) : Nat → Prop := fun b => Pr a0 b ∨ Pr a1 b
theorem own_pr {ao : Option Addr} {n c b : Nat} (h : (Value.slice ao n c).ownBlock = some b) : Pr ao b := by
  cases ao with
  | none => cases h
  | some a => exact ⟨a, rfl, by simpa [Value.ownBlock] using h⟩
theorem Ko.fr {X : Nat → Prop} {w0 W W' : World} {base : Nat} {a0 : Option Addr} {c0 : Nat} {a1 : Option Addr} {c1 : Nat} {ar : Option Addr} {cr : Nat} {O A : List UInt8} {t : Tr} (h : Ko W base a0 c0 a1 c1 ar cr O A t) (hf : Fr X w0 W W') (hX : ∀ b, Xk a0 a1 b → X b) : Ko W' base a0 c0 a1 c1 ar cr O A t :=
  ⟨own_fr h.o hf (.inl fun b hb => hX b (.inl (own_pr hb))), own_fr h.a hf (.inl fun b hb => hX b (.inr (own_pr hb))), own_fr h.r hf (.inr (by decide))⟩

end Go.Proofs.YtmhpeppbhjpkiaaGreat

