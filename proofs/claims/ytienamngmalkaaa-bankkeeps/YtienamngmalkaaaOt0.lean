/- BankOthers, walked. -/
import Derived.Test.YtienamngmalkaaaPur
namespace Go.Proofs.Ytienamngmalkaaa
open Go.RowKit

set_option maxRecDepth 8000
theorem names_any (w : World) : Calls Try.prog 18 #[] w fun e w' => e = .returned (.string ⟨nmL.toArray⟩) ∧ w' = w := by
  go_enter Try.func18, Try.ntmps18
  go_wp2
  go_ret
  exact ⟨rfl, rfl⟩
theorem small_any (x : Nat) (w : World) (hx : x < 256) : Calls Try.prog 19 #[.int .u8 (x : Int)] w fun e w' => e = .returned (.int .u8 (smN x : Int)) ∧ w' = w := by
  unfold smN
  by_cases h1 : x < 65
  · have h2 : ¬ (65 : Int) ≤ (x : Int) := by omega
    rw [if_neg (by omega)]
    go_enter Try.func19, Try.ntmps19
    go_wp2
    go_ret
    exact ⟨rfl, rfl⟩
  · have h2 : (65 : Int) ≤ (x : Int) := by omega
    by_cases h3 : x ≤ 90
    · have h4 : (x : Int) ≤ 90 := by omega
      have h5 : IntKind.u8.wrap ((x : Int) + 32) = (x : Int) + 32 := by rw [IntKind.wrap_u8]; omega
      rw [if_pos (by omega), show ((x + 32 : Nat) : Int) = (x : Int) + 32 by omega]
      go_enter Try.func19, Try.ntmps19
      go_wp2
      go_ret
      exact ⟨rfl, rfl⟩
    · have h4 : ¬ (x : Int) ≤ 90 := by omega
      rw [if_neg (by omega)]
      go_enter Try.func19, Try.ntmps19
      go_wp2
      go_ret
      exact ⟨rfl, rfl⟩
/-- the bank, the call and the answer in memory -/
structure Os (w : World) (L : List Rg) (P : List Ct) (fc : Array Value) (p : Nat) (M : List Rg) (P1 : List Ct) (W : World) : Prop where
  b0 : Blk W w.heap.size 28 (bk L)
  b1 : Blk W (w.heap.size + 1) 40 fc
  b2 : Blk W p 28 (bk M)
  r0 : Rdb W L P
  r1 : Rdb W M P1
  bel : Below w.heap.size w W
theorem Os.keep {w : World} {L : List Rg} {P : List Ct} {fc : Array Value} {p : Nat} {M : List Rg} {P1 : List Ct} {W W' : World} (h : Os w L P fc p M P1 W) (hb : Below W.heap.size W W') : Os w L P fc p M P1 W' :=
  ⟨h.b0.keep hb, h.b1.keep hb, h.b2.keep hb, h.r0.keep hb, h.r1.keep hb, bT h.bel hb⟩
theorem Os.off {w : World} {L : List Rg} {P : List Ct} {fc : Array Value} {p : Nat} {M : List Rg} {P1 : List Ct} {W W' : World} (h : Os w L P fc p M P1 W) {q : Nat} {s l : Bool} {a : Option Addr} {n c : Nat} (hA : Blk W q 24 #[.bool s, .bool l, .slice a n c]) (hg : W.grownBy W' (some q)) (hne : w.heap.size ≠ q ∧ w.heap.size + 1 ≠ q ∧ p ≠ q) (hq : w.heap.size ≤ q) : Os w L P fc p M P1 W' :=
  ⟨h.b0.grown hg (by simpa using hne.1), h.b1.grown hg (by simpa using hne.2.1), h.b2.grown hg (by simpa using hne.2.2), h.r0.off_bk (blk_one hA) hg, h.r1.off_bk (blk_one hA) hg, h.bel.grown hg h.bel.size (fun k hk => by simp at hk; omega)⟩
theorem Os.drewN {w : World} {L : List Rg} {P : List Ct} {fc : Array Value} {p : Nat} {M : List Rg} {P1 : List Ct} {W : World} (h : Os w L P fc p M P1 W) (m : Nat) : Os w L P fc p M P1 (W.drewN m) := h.keep (bdrewN (Below.refl _ _) m)
theorem nm_at {i : Nat} (h : i < 36) (w : World) : (Instr.index 9 (.string ⟨nmL.toArray⟩) (.int .i64 (i : Int))).run Try.prog w = .ok (.int .u8 ((at8 nmL i).toNat : Int)) w := by
  have hs : (⟨nmL.toArray⟩ : ByteArray).size = 36 := rfl
  have hl : nmL.length = 36 := rfl
  rw [run_index_string w 9 _ _ _ Try.underlying9, dif_pos ⟨by omega, by rw [hs]; omega⟩]
  simp only [Int.toNat_natCast]
  rw [at8_eq (by omega)]
  rfl
set_option linter.unusedSimpArgs false in
set_option maxHeartbeats 16000000 in
theorem others_no (L : List Rg) (P : List Ct) (x : Nat) (how : Int) (r : Rg) (c : Ct) (w : World) (hx : x < 256) (R0 : Hid (Rdb w L P)) (R1 : Hid (Rd w r c)) (hE0 : (putP P x how c).2 ≠ 0) :
    Calls Try.prog 5 #[.agg (bk L), .agg #[.int .u8 (x : Int), .int .i64 how, .bool r.s, .bool r.l, .slice r.a r.n r.c]] w fun e w' => e = .returned (.bool true) ∧ Below w.heap.size w w' := by
  have hz := z28
  have hbz := b28
  obtain ⟨rs, rgl, ra, rn, rc⟩ := r
  obtain ⟨cs, cl, ct⟩ := c
  have er1 : rs = cs := R1.out.s
  have er2 : rgl = cl := R1.out.l
  subst er1 er2
  have HT : Hid (Tx w ra rn rc ct) := R1.out.t
  have hrn : rn ≤ 140737488351232 := R1.out.n
  have hlen := Hid.mk' HT.out.len
  have hP := R0.out.2.1
  have hL := R0.out.1
  dsimp only
  clear R1
  have hxI : (x : Int) < 256 := by omega
  obtain ⟨fc, hfc⟩ : ∃ f : Array Value, f = #[.int .u8 (x : Int), .int .i64 how, .bool rs, .bool rgl, .slice ra rn rc] := ⟨_, rfl⟩
  generalize hW2 : (w.alloc (.cells (bk L) 28)).alloc (.cells #[.int .u8 (x : Int), .int .i64 how, .bool rs, .bool rgl, .slice ra rn rc] 40) = W2
  have B0 : Hid (Blk W2 w.heap.size 28 (bk L)) := by rw [← hW2]; exact (Blk.new w 28 _).keep (bAlloc (Below.refl _ _) _)
  have B1 : Hid (Blk W2 (w.heap.size + 1) 40 fc) := by
    rw [← hW2, hfc]
    have := Blk.new (w.alloc (.cells (bk L) 28)) 40 #[.int .u8 (x : Int), .int .i64 how, .bool rs, .bool rgl, .slice ra rn rc]
    rwa [World.size_alloc] at this
  have BE : Hid (Below w.heap.size w W2) := by rw [← hW2]; exact bAlloc (bAlloc (Below.refl _ _) _) _
  have CA := Hid.mk' (awake_any W2)
  have HF := Hid.mk' hfc
  clear hfc
  go_enter Try.func5, Try.ntmps5
  go_wp2_with fail
  clear hW2
  refine CA.out.mono ?_
  rintro e w3 ⟨rfl, hb3⟩
  have K0 := Hid.mk' (B0.out.keep hb3)
  have K1 := Hid.mk' (B1.out.keep hb3)
  have BL := Hid.mk' (bT BE.out hb3)
  clear hb3 CA B0 B1 BE
  have FC := Hid.mk' (fun W (h : Blk W (w.heap.size + 1) 40 fc) => (show W.cell? ⟨w.heap.size + 1, 0, none⟩ = some (.int .u8 (x : Int)) ∧ W.cell? ⟨w.heap.size + 1, 1, none⟩ = some (.int .i64 how) ∧ W.cell? ⟨w.heap.size + 1, 2, none⟩ = some (.bool rs) ∧ W.cell? ⟨w.heap.size + 1, 3, none⟩ = some (.bool rgl) ∧ W.cell? ⟨w.heap.size + 1, 4, none⟩ = some (.slice ra rn rc) from by rw [HF.out] at h; exact ⟨h.cell rfl, h.cell rfl, h.cell rfl, h.cell rfl, h.cell rfl⟩))
  obtain ⟨f0, f1, f2, f3, f4⟩ := FC.out w3 K1.out
  have CP := Hid.mk' (put_any L P x how rs rgl ra rn rc ct w3 hx (R0.out.keep BL.out) (HT.out.keep BL.out))
  generalize hPP : putP P x how ⟨rs, rgl, ct⟩ = PP at CP
  obtain ⟨P1, E⟩ := PP
  have hE : E ≠ 0 := by rw [hPP] at hE0; exact hE0
  have hE1 : (E == 0) = false := by simpa using hE
  have hE2 : (E != 0) = true := by simpa using hE
  dsimp only at CP
  go_wp2_with (refine wl_load28 (.tmp 2) rfl rfl rfl hL K0.out ?_)
  refine CP.out.mono ?_
  rintro e w4 ⟨N1, rfl, hN1⟩
  have hl1 := hN1.len
  have hBz := Hid.mk' (Blk.new w4 28 (bk zb))
  obtain ⟨hbx, hbb⟩ := boxed (w := w4) hl1
  have hb4 := hN1.own.bel
  have hsh1 : ∀ (k : Nat) (c : Ct), P1[k]? = some c → c.t.length ≤ 140737488351232 := by
    have := putP_short hP (rdb_short R0.out) x how ⟨rs, rgl, ct⟩
    rw [hPP] at this; exact this
  have hR1 := hN1.rdb hsh1
  obtain ⟨p, hp⟩ : ∃ p, p = w4.heap.size := ⟨_, rfl⟩
  have OS : Hid (Os w L P fc p N1 P1 (put28 (w4.alloc (.cells (bk zb) 28)) w4.heap.size N1)) := ⟨(K0.out.keep hb4).keep hbb, (K1.out.keep hb4).keep hbb, by rw [hp]; exact hbx, R0.out.keep (bT BL.out (bT hb4 hbb)), hR1.keep hbb, bT BL.out (bT hb4 hbb)⟩
  have hbx3 := Hid.mk' hbx
  clear hbx hbb hb4 hN1 CP K0 K1 BL f0 f1 f2 f3 f4 hR1 hsh1
  go_wp2_with (first | (refine wl_store28 (.tmp 5) (.tmp 30) rfl rfl rfl rfl hl1 rfl hBz.out ?_) | (refine wl_load28 (.tmp 5) rfl rfl rfl hl1 hbx3.out ?_))
  generalize put28 (w4.alloc (.cells (bk zb) 28)) w4.heap.size N1 = w5 at *
  rw [← hp]
  clear hp hBz
  have HPP := Hid.mk' hPP
  clear hPP
  have hzP : P1 = zP := by
    have := (putP_no (P := P) (x := x) (how := how) (c := ⟨rs, rgl, ct⟩) (by rw [HPP.out]; exact hE)).1
    rw [HPP.out] at this; exact this
  subst hzP
  have CS := Hid.mk' (sameBank_yes N1 zb zP w5 OS.out.r1 (rdb_zero w5))
  have BLN := Hid.mk' OS.out.bel
  refine CS.out.mono ?_
  rintro e w6 ⟨rfl, hb6⟩
  have BLM := Hid.mk' (bT BLN.out hb6)
  clear hb6
  go_wp2
  go_ret
  exact ⟨rfl, BLM.out⟩
end Go.Proofs.Ytienamngmalkaaa
