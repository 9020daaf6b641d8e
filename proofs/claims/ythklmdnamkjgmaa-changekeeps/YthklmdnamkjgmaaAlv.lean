/- The law alive. -/
import Derived.Test.YthklmdnamkjgmaaSam
import Derived.Test.YthklmdnamkjgmaaRap
import Derived.Lib.SmallJoins
namespace Go.Proofs.Ythklmdnamkjgmaa
open Go.RowKit

set_option maxRecDepth 8000
theorem cell_lit (W : World) (C : Array Value) (e : TypeId) (fz : Nat × Nat) (j : Nat) : (W.alloc (.cells C e fz)).cell? ⟨W.heap.size, j, none⟩ = C[j]? := by
  have := heap_alloc_new W (.cells C e fz)
  unfold World.cell?
  rw [this]
  rfl
theorem tx_lit (W : World) (l : List UInt8) (fz : Nat × Nat) (n : Nat) (hn : l.length = n) (hb : n ≤ 1000) : Tx (W.alloc (.cells (bv l).toArray 5 fz)) (some ⟨W.heap.size, 0, none⟩) n n l := by
  refine ⟨hn, Nat.le_refl _, by omega, (fun h => by cases h), fun a ha j hj => ?_⟩
  obtain rfl : (⟨W.heap.size, 0, none⟩ : Addr) = a := by simpa using ha
  rw [add_none, Nat.zero_add, cell_lit, List.getElem?_toArray]
  exact bv_at l j (by omega)
/-- the example's edits -/
def exA (q0 q1 : Nat) : Er := ⟨1, some ⟨q0, 0, none⟩, 1, 1, [98], some ⟨q1, 0, none⟩, 2, 2, [120, 121]⟩
def exB (q2 : Nat) : Er := ⟨3, some ⟨q2, 0, none⟩, 1, 1, [99], none, 0, 0, []⟩
theorem ex_app : app [97, 98, 99] [⟨1, [98], [120, 121]⟩, ⟨3, [99], []⟩] = some [97, 120, 121] := by decide +kernel
theorem ex_no : app [97, 98, 99] [⟨3, [99], []⟩] = none := by decide +kernel
theorem ex_fst : fst [⟨1, [98], [120, 121]⟩, ⟨3, [99], []⟩] = 1 := by decide +kernel
theorem ex_trim : trim [⟨0, [104, 101, 108, 108, 111], [104, 101, 108, 112]⟩] = [⟨3, [108, 111], [112]⟩] := by
  unfold trim
  simp only [List.filter, bne]
  rw [show ([104, 101, 108, 108, 111] == ([104, 101, 108, 112] : List UInt8)) = false by decide +kernel]
  simp only [Bool.not_false, List.map_cons, List.map_nil]
  have h1 : cb [104, 101, 108, 108, 111] [104, 101, 108, 112] = 3 := by decide +kernel
  have h2 : ce [108, 111] [112] = 0 := by decide +kernel
  unfold cut
  simp only [h1]
  simp only [List.drop, h2]
  have h3 : IntKind.i64.wrap (0 + ((3 : Nat) : Int)) = 3 := by rw [IntKind.wrap_i64]; omega
  rw [h3]; rfl
theorem mod_two : Mod [97, 98, 99] [⟨1, [98], [120, 121]⟩, ⟨3, [99], []⟩] := fun k U h => by
  have h1 := app_len h
  have h2 : nsum (List.take k [(⟨1, [98], [120, 121]⟩ : Ed), ⟨3, [99], []⟩]) ≤ 2 := by
    match k with
    | 0 => simp [nsum]
    | 1 => simp [nsum]
    | k + 2 => simp [nsum]
  simp at h1; omega
theorem mod_one : Mod [97, 98, 99] [⟨3, [99], []⟩] := fun k U h => by
  have h1 := app_len h
  have h2 : nsum (List.take k [(⟨3, [99], []⟩ : Ed)]) ≤ 0 := by
    match k with
    | 0 => simp [nsum]
    | k + 1 => simp [nsum]
  simp at h1; omega
set_option maxHeartbeats 16000000 in
theorem alive_any (w : World) : Calls Try.prog 10 #[] w fun e w' => e = .returned (.bool true) ∧ Below w.heap.size w w' := by
  have hcv : ∀ (W : World) (C : Array Value) (n c g : Nat), g = W.heap.size → (convert 22 22 (.slice (some ⟨g, 0, none⟩) n c)).run Try.prog (W.alloc (.cells C 5)) = .ok (.slice (some ⟨g, 0, none⟩) n c) (W.alloc (.cells C 5 (C.size, C.size + 1))) := fun W C n c g hg => Joins.run_convert_bytes_const_at (P := Try.prog) W 22 5 C n c g hg Try.underlying22 Try.underlying5
  obtain ⟨q, hq⟩ : ∃ q, q = w.heap.size := ⟨_, rfl⟩
  obtain ⟨W3, hW3⟩ : ∃ W3, W3 = ((w.alloc (.cells #[.int .u8 98] 5 (1, 2))).alloc (.cells #[.int .u8 120, .int .u8 121] 5 (2, 3))).alloc (.cells #[.int .u8 99] 5 (1, 2)) := ⟨_, rfl⟩
  have hs3 : W3.heap.size = q + 3 := by rw [hW3, hq]; simp
  obtain ⟨W4, hW4⟩ : ∃ W4, W4 = W3.alloc (.cells #[.int .i64 1, .slice (some ⟨w.heap.size, 0, none⟩) 1 1, .slice (some ⟨w.heap.size + 1, 0, none⟩) 2 2, .int .i64 3, .slice (some ⟨w.heap.size + 2, 0, none⟩) 1 1, .slice none 0 0] 38) := ⟨_, rfl⟩
  have L4 : Hid (Below w.heap.size w W4) := by unfold Hid; rw [hW4, hW3]; exact bAlloc (bAlloc (bAlloc (bAlloc (Below.refl _ _) _) _) _) _
  have K4 : Blk W4 (q + 3) 38 #[.int .i64 1, .slice (some ⟨q, 0, none⟩) 1 1, .slice (some ⟨q + 1, 0, none⟩) 2 2, .int .i64 3, .slice (some ⟨q + 2, 0, none⟩) 1 1, .slice none 0 0] := by
    rw [hW4, ← hs3, hq]; exact Blk.new _ _ _
  have x0 : Tx W4 (some ⟨q, 0, none⟩) 1 1 [98] := by
    rw [hW4, hW3, hq]
    exact (tx_lit w [98] (1, 2) 1 rfl (by omega)).keep (bAlloc (bAlloc (bAlloc (Below.refl _ _) _) _) _)
  have x1 : Tx W4 (some ⟨q + 1, 0, none⟩) 2 2 [120, 121] := by
    rw [hW4, hW3, hq]
    have := (tx_lit (w.alloc (.cells #[.int .u8 98] 5 (1, 2))) [120, 121] (2, 3) 2 rfl (by omega))
    rw [World.size_alloc] at this
    exact this.keep (bAlloc (bAlloc (Below.refl _ _) _) _)
  have x2 : Tx W4 (some ⟨q + 2, 0, none⟩) 1 1 [99] := by
    rw [hW4, hW3, hq]
    have := (tx_lit ((w.alloc (.cells #[.int .u8 98] 5 (1, 2))).alloc (.cells #[.int .u8 120, .int .u8 121] 5 (2, 3))) [99] (1, 2) 1 rfl (by omega))
    rw [World.size_alloc, World.size_alloc] at this
    exact this.keep (bAlloc (Below.refl _ _) _)
  have E4 : Hid (Edz W4 (some ⟨q + 3, 0, none⟩) [exA q (q + 1), exB (q + 2)]) := ⟨fun k r hk => by
      match k, hk with
      | 0, hk => simp at hk; subst hk; exact ⟨_, 0, rfl, K4.cell rfl, K4.cell rfl, K4.cell rfl⟩
      | 1, hk => simp at hk; subst hk; exact ⟨_, 0, rfl, K4.cell rfl, K4.cell rfl, K4.cell rfl⟩
      | k + 2, hk => simp at hk, fun k r hk => by
      match k, hk with
      | 0, hk => simp at hk; subst hk; exact ⟨x0, x1, by show 1 ≤ _; omega, by show 2 ≤ _; omega⟩
      | 1, hk => simp at hk; subst hk; exact ⟨x2, tx_nil _, by show 1 ≤ _; omega, by show 0 ≤ _; omega⟩
      | k + 2, hk => simp at hk⟩
  have D4 : Hid ([exA q (q + 1), exB (q + 2)].map Er.d = [⟨1, [98], [120, 121]⟩, ⟨3, [99], []⟩]) := rfl
  obtain ⟨E, hE⟩ : ∃ E, E = [exA q (q + 1), exB (q + 2)] := ⟨_, rfl⟩
  have hEl : Hid (E.length = 2) := by unfold Hid; rw [hE]; rfl
  rw [← hE] at E4 D4
  obtain ⟨e1, c1, hs1, hE1⟩ := sl_e (eo := some ⟨q + 3, 0, none⟩) (en := 2) (ec := 2) (E := E) hEl.out (by omega) (by omega)
  have HE1 := Hid.mk' hE1
  have D1 : Hid ((E.drop 1).map Er.d = [⟨3, [99], []⟩]) := by unfold Hid; rw [hE]; rfl
  have hqr : w.heap.size = q := hq.symm
  have HQ := Hid.mk' hq
  clear x0 x1 x2 K4 hE hE1 hq
  go_enter Try.func10, Try.ntmps10
  go_upto_region 2 with fail
  rw [← hqr, ← hW3, ← hW4, hqr]
  have L4q := L4
  clear hW3 hW4 hqr hs3
  have hs1' : ∀ W, (Instr.sliceAt 23 (.slice (some ⟨q + 3, 0, none⟩) 2 2) (some (.int .i64 1)) none none).run Try.prog W = .ok (.slice e1 1 c1) W := hs1
  clear hs1 L4q
  have EX1 := Hid.mk' ex_app
  have EX2 := Hid.mk' ex_no
  have EX3 := Hid.mk' ex_fst
  have EX4 := Hid.mk' ex_trim
  have B5 : Hid (Below W4.heap.size W4 (W4.alloc (.cells #[.int .u8 97, .int .u8 98, .int .u8 99] 5 (3, 4)))) := bAlloc (Below.refl _ _) _
  have C5 := Hid.mk' (apply_any (some ⟨W4.heap.size, 0, none⟩) 3 3 [97, 98, 99] (some ⟨q + 3, 0, none⟩) 2 2 E (W4.alloc (.cells #[.int .u8 97, .int .u8 98, .int .u8 99] 5 (3, 4))) (tx_lit W4 [97, 98, 99] (3, 4) 3 rfl (by omega)) (by omega) (E4.out.keep B5.out) hEl.out (by omega) (by unfold Hid; rw [D4.out]; exact mod_two))
  go_wp2_with fail
  refine C5.out.mono ?_
  rw [D4.out, EX1.out]
  rintro e w5 (⟨U, v5, eU, rfl, hO5, hB5⟩ | ⟨h, _⟩)
  · injection eU with eU
    subst eU
    obtain ⟨a5, c5, rfl, hT5⟩ := own_tx hO5 (by show 3 ≤ _; omega)
    have T5 := Hid.mk' hT5
    have L5 : Hid (Below W4.heap.size W4 w5) := bT B5.out hB5
    clear hO5 hB5 hT5 C5 B5
    dsimp only
    go_upto_region 3 with fail
    have B6 : Hid (Below w5.heap.size w5 (w5.alloc (.cells #[.int .u8 97, .int .u8 98, .int .u8 99] 5 (3, 4)))) := bAlloc (Below.refl _ _) _
    have E6 : Hid (Edz (w5.alloc (.cells #[.int .u8 97, .int .u8 98, .int .u8 99] 5 (3, 4))) e1 (E.drop 1)) := ⟨HE1.out _ ((E4.out.row.keep L5.out).keep B6.out), fun k r hk => by
      rw [List.getElem?_drop] at hk
      exact ((E4.out.txs (1 + k) r hk).keep L5.out).keep B6.out⟩
    have C6 := Hid.mk' (apply_any (some ⟨w5.heap.size, 0, none⟩) 3 3 [97, 98, 99] e1 1 c1 (E.drop 1) (w5.alloc (.cells #[.int .u8 97, .int .u8 98, .int .u8 99] 5 (3, 4))) (tx_lit w5 [97, 98, 99] (3, 4) 3 rfl (by omega)) (by omega) E6.out (by rw [List.length_drop, hEl.out]) (by omega) (by unfold Hid; rw [D1.out]; exact mod_one))
    go_wp2_with fail
    refine C6.out.mono ?_
    rw [D1.out, EX2.out]
    rintro e w6 (⟨U, v6, eU, _⟩ | ⟨_, rfl, hB6⟩)
    · cases eU
    · have L6 : Hid (Below W4.heap.size W4 w6) := bT L5.out (bT B6.out hB6)
      have T6 : Hid (Tx w6 a5 3 c5 [97, 120, 121]) := (T5.out.keep B6.out).keep hB6
      clear hB6 C6 E6 B6 T5
      dsimp only
      go_upto_region 4 with fail
      obtain ⟨w7, hw7⟩ : ∃ w7, w7 = (w6.alloc (.cells #[.int .u8 104, .int .u8 101, .int .u8 108, .int .u8 108, .int .u8 111] 5 (5, 6))).alloc (.cells #[.int .u8 104, .int .u8 101, .int .u8 108, .int .u8 112] 5 (4, 5)) := ⟨_, rfl⟩
      have B7 : Hid (Below w6.heap.size w6 w7) := by unfold Hid; rw [hw7]; exact bAlloc (bAlloc (Below.refl _ _) _) _
      have y1 : Tx w7 (some ⟨w6.heap.size, 0, none⟩) 5 5 [104, 101, 108, 108, 111] := by
        rw [hw7]
        exact (tx_lit w6 [104, 101, 108, 108, 111] (5, 6) 5 rfl (by omega)).keep (bAlloc (Below.refl _ _) _)
      have y2 : Tx w7 (some ⟨w6.heap.size + 1, 0, none⟩) 4 4 [104, 101, 108, 112] := by
        rw [hw7]
        have := tx_lit (w6.alloc (.cells #[.int .u8 104, .int .u8 101, .int .u8 108, .int .u8 108, .int .u8 111] 5 (5, 6))) [104, 101, 108, 112] (4, 5) 4 rfl (by omega)
        rwa [World.size_alloc] at this
      have C7 := Hid.mk' (between_any (some ⟨w6.heap.size, 0, none⟩) 5 5 _ (some ⟨w6.heap.size + 1, 0, none⟩) 4 4 _ w7 y1 y2 (by omega) (by omega))
      clear y1 y2
      go_wp2_with fail
      rw [← hw7]
      refine C7.out.mono ?_
      rw [EX4.out]
      rintro e w8 ⟨v8, F8, rfl, hF8, hL8⟩
      have L8 : Hid (Below w6.heap.size w6 w8) := bT B7.out hL8.bel
      obtain ⟨a8, c8, rfl, hE8, -⟩ := hL8.edz
      obtain ⟨r8, rfl⟩ := List.length_eq_one_iff.1 (show F8.length = 1 by have := congrArg List.length hF8; simpa using this)
      have hd8 : r8.d = ⟨3, [108, 111], [112]⟩ := by simpa using hF8
      obtain ⟨g8, o8, e8, z0, z1, z2⟩ := hE8.row 0 r8 rfl
      subst e8
      have hT8 := (hE8.txs 0 r8 rfl).t2
      obtain ⟨ra, rp1, ro, rc1, rO, rp2, rn, rc2, rN⟩ := r8
      dsimp only [Er.d] at hd8 z0 z2 hT8
      have hd9 := Ed.mk.inj hd8
      obtain ⟨rfl, rfl, rfl⟩ := hd9
      rw [Nat.zero_mul, Nat.add_zero] at z0 z2
      have v1 := conv_tx (T6.out.keep L8.out)
      have v2 := conv_tx hT8
      have LL : Hid (Below W4.heap.size W4 w8) := bT L6.out L8.out
      have C16 := Hid.mk' (invert_any (some ⟨q + 3, 0, none⟩) 2 2 E w8 (E4.out.keep LL.out) hEl.out (by omega))
      clear hF8 hL8 hE8 hT8 z1 hd8 C7 hw7 B7 T6
      dsimp only [List.length_cons, List.length_nil]
      go_wp2_with fail
      refine C16.out.mono ?_
      rintro e w9 ⟨v9, F9, rfl, hF9, hL9⟩
      have hl9 : F9.length = 2 := by
        have := congrArg List.length hF9
        rw [inv_length, List.length_map, List.length_map, hEl.out] at this
        exact this
      obtain ⟨a9, c9, rfl, -, -⟩ := hL9.edz
      rw [hl9]
      have L9 : Hid (Below W4.heap.size W4 w9) := bT LL.out hL9.bel
      have C24 := Hid.mk' (first_any (some ⟨q + 3, 0, none⟩) 2 2 E w9 (E4.out.keep L9.out) hEl.out (by omega) (by omega))
      rw [D4.out, EX3.out] at C24
      clear hF9 hL9 hl9 C16 v1 v2 z0 z2
      dsimp only
      go_wp2_with fail
      refine C24.out.mono ?_
      rintro e w10 ⟨rfl, hb10⟩
      have L10 : Hid (Below w.heap.size w w10) := bT L4.out (bT L9.out hb10)
      clear hb10 C24
      dsimp only
      go_wp2
      go_ret
      exact ⟨rfl, L10.out⟩
  · cases h
end Go.Proofs.Ythklmdnamkjgmaa
