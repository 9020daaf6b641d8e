/- GroveAdds, walked. -/
import Derived.Test.YtaahklapoppgaaaPn03
import Derived.Test.YtaahklapoppgaaaPm31
import Derived.Test.YtaahklapoppgaaaPm37
namespace Go.Proofs.Ytaahklapoppgaaa
open Go.RowKit

set_option maxRecDepth 8000
/-- what Add is handed, as cells -/
def ad (v : Value) (c : Int) (A M : List Int) : List Value := v :: .int .i64 c :: (ml A ++ ml M)
def ada (v : Value) (c : Int) (A M : List Int) : Array Value := (ad v c A M).toArray
theorem ad_len {v : Value} {c : Int} {A M : List Int} (hA : A.length = 27) (hM : M.length = 27) : (ad v c A M).length = 56 := by simp [ad, ml_len, hA, hM]
structure Ax (W : World) (B : Nat) (v : Value) (c : Int) (A M : List Int) : Prop where
  blk : Blk W B 43 (ada v c A M)
  c0 : W.cell? ⟨B, 0, none⟩ = some v
  c1 : W.cell? ⟨B, 1, none⟩ = some (.int .i64 c)
  m1 : W.rangeAt B 2 (ml A)
  m2 : W.rangeAt B 29 (ml M)
theorem Ax.of {W : World} {B : Nat} {v : Value} {c : Int} {A M : List Int} (h : Blk W B 43 (ada v c A M)) (hA : A.length = 27) : Ax W B v c A M := by
  have h0 := range_blk (cs := ad v c A M) h
  refine ⟨h, ?_, ?_, ?_, ?_⟩
  · have := h0 0 _ rfl; simpa using this
  · have := h0 1 _ rfl; simpa using this
  · have := range_part (pre := [v, .int .i64 c]) (mid := ml A) (post := ml M) (by simpa [ad] using h0)
    simpa using this
  · have := range_part (pre := [v, .int .i64 c] ++ ml A) (mid := ml M) (post := []) (by simpa [ad] using h0)
    simpa [ml_len, hA] using this
theorem Ax.keep {W W' : World} {B : Nat} {v : Value} {c : Int} {A M : List Int} (h : Ax W B v c A M) (hb : Below W.heap.size W W') : Ax W' B v c A M := ⟨h.blk.keep hb, cell_keep h.c0 hb, cell_keep h.c1 hb, range_keep h.m1 hb, range_keep h.m2 hb⟩
/-- what Add gives, well or not -/
noncomputable def adD (z : Int) (D : List Nd) : List Nd := if z = 0 then D else []
noncomputable def adN (z now : Int) : Int := if z = 0 then now else 0
def AdQ (z : Int) (D : List Nd) (now : Int) (w : World) (e : Ending) (w' : World) : Prop := ∃ ao n k H, e = .returned (.tuple #[.agg #[.slice ao n k, .int .i64 now], .int .i64 z]) ∧ Grz w' ao H ∧ H.length = n ∧ n ≤ k ∧ H.map Nr.d = D ∧ n ≤ 5000 ∧ Below w.heap.size w w'
theorem grz_nil (W : World) : Grz W none [] := ⟨fun k r hk => by simp at hk, fun k r hk => by simp at hk⟩
theorem AdQ.of {z : Int} {D : List Nd} {now : Int} {w w' : World} {e : Ending} (h : AdP z D now w e w') (hD : z = 0 → D.length ≤ 5000) : AdQ z (adD z D) (adN z now) w e w' := by
  by_cases hz : z = 0
  · obtain ⟨B, H, X, S, k, rfl, h1, h2, h3, h4⟩ := h.1 hz
    have e1 : adD z D = D := if_pos hz
    have e2 : adN z now = now := if_pos hz
    rw [e1, e2, hz]
    have hl : H.length = D.length := by rw [← h1, List.length_map]
    exact ⟨_, _, _, H, rfl, h3.grz, rfl, h2, h1, by have := hD hz; omega, h4⟩
  · obtain ⟨rfl, h4⟩ := h.2 hz
    have e1 : adD z D = [] := if_neg hz
    have e2 : adN z now = 0 := if_neg hz
    rw [e1, e2]
    exact ⟨none, 0, 0, [], rfl, grz_nil _, rfl, Nat.le_refl _, rfl, by omega, h4⟩
theorem addE_len {D : List Nd} {now : Int} {x : Nd} (h : addE D now x = 0) : (addG D now x).length ≤ 5000 := by
  have hr : Right D now := by
    by_cases hr : Right D now
    · exact hr
    · unfold addE at h; rw [ti_f hr] at h; exact absurd h (by decide)
  have := hr.sz.1
  unfold addG
  rw [List.length_append, List.length_set]
  show D.length + 1 ≤ 5000
  omega
/-- a history in a box -/
structure Bx (W : World) (q : Nat) (ao : Option Addr) (n k : Nat) (now : Int) (H : List Nr) : Prop where
  b : Blk W q 24 #[.slice ao n k, .int .i64 now]
  g : Grz W ao H
theorem Bx.keep {W W' : World} {q n k : Nat} {ao : Option Addr} {now : Int} {H : List Nr} (h : Bx W q ao n k now H) (hb : Below W.heap.size W W') : Bx W' q ao n k now H := ⟨h.b.keep hb, h.g.keep hb⟩
theorem Bx.put {w W : World} {q n k : Nat} {ao : Option Addr} {now : Int} {H : List Nr} (hW : w.alloc (.cells #[.slice none 0 0, .int .i64 0] 24) = W) (hq : w.heap.size = q) (hg : Grz w ao H) : Bx ((W.setCell ⟨q, 0, none⟩ (.slice ao n k)).setCell ⟨q, 1, none⟩ (.int .i64 now)) q ao n k now H ∧ Below w.heap.size w ((W.setCell ⟨q, 0, none⟩ (.slice ao n k)).setCell ⟨q, 1, none⟩ (.int .i64 now)) := by
  subst hW hq
  have hb : Below w.heap.size w (((w.alloc (.cells #[.slice none 0 0, .int .i64 0] 24)).setCell ⟨w.heap.size, 0, none⟩ (.slice ao n k)).setCell ⟨w.heap.size, 1, none⟩ (.int .i64 now)) := ((bAlloc (Below.refl _ _) _).setCell (Nat.le_refl _) _).setCell (Nat.le_refl _) _
  exact ⟨⟨set24 (Blk.new w 24 _), hg.keep hb⟩, hb⟩
theorem box24_facts {w W : World} {q : Nat} (hW : w.alloc (.cells #[.slice none 0 0, .int .i64 0] 24) = W) (hq : w.heap.size = q) : W.cell? ⟨q, 0, none⟩ = some (.slice none 0 0) ∧ W.cell? ⟨q, 1, none⟩ = some (.int .i64 0) ∧ W.frozen? ⟨q, 0, none⟩ = false ∧ W.frozen? ⟨q, 1, none⟩ = false := by
  subst hW hq
  have := Blk.new w 24 #[.slice none 0 0, .int .i64 0]
  exact ⟨this.cell rfl, this.cell rfl, this.frozen _, this.frozen _⟩
set_option maxHeartbeats 16000000 in
set_option linter.unusedSimpArgs false in
theorem groveAdds_walk (ao : Option Addr) (n c : Nat) (now : Int) (G : List Nr) (ea : Option Addr) (en ec : Nat) (E : List Er) (cur : Int) (was made : List Int) (w : World) (HG : Hid (Grz w ao G)) (hn : G.length = n) (hc : n ≤ c) (HR : Hid (Nz w ⟨now, 0, ea, en, ec, E, cur, was, made⟩)) :
    Calls Try.prog 4 #[.agg #[.slice ao n c, .int .i64 now], .agg (ada (.slice ea en ec) cur was made)] w fun e w' => e = .returned (.bool true) ∧ Below w.heap.size w w' := by
  have hwl : was.length = 27 := HR.out.ww.len
  have hml : made.length = 27 := HR.out.wm.len
  have C19 := fun W (hW : Below w.heap.size w W) => radd_any ao n c now G ea en ec E cur was made W (HG.out.keep hW) hn (HR.out.keep hW)
  have C20 := fun W (hW : Below w.heap.size w W) => add_walk zr rfl z63 ao n c now G ea en ec E cur was made W (HG.out.keep hW) hn hc (HR.out.keep hW)
  have hD := @addE_len (G.map Nr.d) now ⟨now, 0, E.map Er.d, cur, was, made⟩
  generalize addE (G.map Nr.d) now ⟨now, 0, E.map Er.d, cur, was, made⟩ = z at *
  generalize addG (G.map Nr.d) now ⟨now, 0, E.map Er.d, cur, was, made⟩ = D at *
  have D19 : Hid (∀ W, Below w.heap.size w W → Calls Try.prog 19 #[.agg #[.slice ao n c, .int .i64 now], .slice ea en ec, .int .i64 cur, .agg (mk was), .agg (mk made)] W fun e w' => AdQ z (adD z D) (adN z (n : Int)) W e w') := fun W hW => (C19 W hW).mono fun e w' h => AdQ.of h hD
  have D20 : Hid (∀ W, Below w.heap.size w W → Calls Try.prog 20 #[.agg #[.slice ao n c, .int .i64 now], .slice ea en ec, .int .i64 cur, .agg (mk was), .agg (mk made)] W fun e w' => AdQ z (adD z D) (adN z (n : Int)) W e w') := fun W hW => (C20 W hW).mono fun e w' h => AdQ.of h hD
  generalize adD z D = D' at *
  generalize adN z (n : Int) = n' at *
  clear C19 C20 hD hn HG
  obtain ⟨W1, hW1⟩ : ∃ x, (w.alloc (.cells #[.slice ao n c, .int .i64 now] 24)).alloc (.cells (ada (.slice ea en ec) cur was made) 43) = x := ⟨_, rfl⟩
  obtain ⟨b, hb⟩ : ∃ b, w.heap.size = b := ⟨_, rfl⟩
  have L1 : Hid (Below w.heap.size w W1) := by unfold Hid; rw [← hW1]; exact bAlloc (bAlloc (Below.refl _ _) _) _
  have K1 : Hid (Blk W1 b 24 #[.slice ao n c, .int .i64 now]) := by unfold Hid; rw [← hW1, ← hb]; exact (Blk.new w 24 _).keep (bAlloc (Below.refl _ _) _)
  have A1 : Hid (Ax W1 (b + 1) (.slice ea en ec) cur was made) := by
    refine Ax.of ?_ hwl
    rw [← hW1, ← hb]
    have := Blk.new (w.alloc (.cells #[.slice ao n c, .int .i64 now] 24)) 43 (ada (.slice ea en ec) cur was made)
    rwa [World.size_alloc] at this
  have hne : ada (.slice ea en ec) cur was made ≠ #[] := fun h => by have := congrArg Array.size h; simp [ada, ad] at this
  go_enter Try.func4, Try.ntmps4
  go_wp2_with fail
  clear hW1 hb
  refine (awake_any _).mono ?_
  rintro e w2 ⟨rfl, hb2⟩
  have L2 := Hid.mk' (bT L1.out hb2)
  have K2 := Hid.mk' (K1.out.keep hb2)
  have A2 := Hid.mk' (A1.out.keep hb2)
  clear hb2 L1 K1 A1
  dsimp only
  have a2 : w2.cell? ⟨b, 0, none⟩ = some (.slice ao n c) := K2.out.cell rfl
  have b2 : w2.cell? ⟨b, 1, none⟩ = some (.int .i64 now) := K2.out.cell rfl
  have c2 := A2.out.c0
  have d2 := A2.out.c1
  go_wp2_with (first | refine wl_ld41 (B := b + 1) (o := 2) (.tmp 17) rfl rfl rfl hwl A2.out.m1 ?_ | refine wl_ld41 (B := b + 1) (o := 29) (.tmp 19) rfl rfl rfl hml A2.out.m2 ?_ | fail)
  refine (D19.out w2 L2.out).mono ?_
  rintro e w3 ⟨p3, n3, k3, H3, rfl, g3, l3, hk3, d3, m3, hb3⟩
  have L3 := Hid.mk' (bT L2.out hb3)
  have K3 := Hid.mk' (K2.out.keep hb3)
  have A3 := Hid.mk' (A2.out.keep hb3)
  have F3 : Hid (H3.length = n3 ∧ H3.map Nr.d = D' ∧ n3 ≤ 5000) := ⟨l3, d3, m3⟩
  have G3 := Hid.mk' g3
  clear hb3 L2 K2 A2 a2 b2 c2 d2 g3 l3 hk3 d3 m3
  dsimp only
  obtain ⟨W4, hW4⟩ : ∃ x, w3.alloc (.cells #[.slice none 0 0, .int .i64 0] 24) = x := ⟨_, rfl⟩
  obtain ⟨q, hq⟩ : ∃ x, w3.heap.size = x := ⟨_, rfl⟩
  obtain ⟨k0, k1, k4, k5⟩ := box24_facts hW4 hq
  go_upto_region 4 with fail
  obtain ⟨x4, y4⟩ := Bx.put (n := n3) (k := k3) (now := n') hW4 hq G3.out
  have X4 := Hid.mk' x4
  have L4 := Hid.mk' (bT L3.out y4)
  have K4 := Hid.mk' (K3.out.keep y4)
  have A4 := Hid.mk' (A3.out.keep y4)
  clear x4 y4 k0 k1 k4 k5 hW4 hq G3 L3 K3 A3
  generalize (W4.setCell ⟨q, 0, none⟩ (.slice p3 n3 k3)).setCell ⟨q, 1, none⟩ (.int .i64 n') = w4 at *
  have a4 : w4.cell? ⟨b, 0, none⟩ = some (.slice ao n c) := K4.out.cell rfl
  have b4 : w4.cell? ⟨b, 1, none⟩ = some (.int .i64 now) := K4.out.cell rfl
  have c4 := A4.out.c0
  have d4 := A4.out.c1
  go_wp2_with (first | refine wl_ld41 (B := b + 1) (o := 2) (.tmp 30) rfl rfl rfl hwl A4.out.m1 ?_ | refine wl_ld41 (B := b + 1) (o := 29) (.tmp 32) rfl rfl rfl hml A4.out.m2 ?_ | fail)
  refine (D20.out w4 L4.out).mono ?_
  rintro e w5 ⟨p5, n5, k5, H5, rfl, g5, l5, hk5, d5, m5, hb5⟩
  have L5 := Hid.mk' (bT L4.out hb5)
  have X5 := Hid.mk' (X4.out.keep hb5)
  have F5 : Hid (H5.length = n5 ∧ H5.map Nr.d = D' ∧ n5 ≤ 5000) := ⟨l5, d5, m5⟩
  have G5 := Hid.mk' g5
  clear hb5 L4 K4 A4 a4 b4 c4 d4 g5 l5 hk5 d5 m5 X4
  dsimp only
  obtain ⟨W6, hW6⟩ : ∃ x, w5.alloc (.cells #[.slice none 0 0, .int .i64 0] 24) = x := ⟨_, rfl⟩
  obtain ⟨q2, hq2⟩ : ∃ x, w5.heap.size = x := ⟨_, rfl⟩
  obtain ⟨k0, k1, k4, k6⟩ := box24_facts hW6 hq2
  go_upto_region 5 with fail
  obtain ⟨x6, y6⟩ := Bx.put (n := n5) (k := k5) (now := n') hW6 hq2 G5.out
  have X6 := Hid.mk' x6
  have L6 := Hid.mk' (bT L5.out y6)
  have Y6 := Hid.mk' (X5.out.keep y6)
  clear x6 y6 k0 k1 k4 k6 hW6 hq2 G5 L5 X5
  generalize (W6.setCell ⟨q2, 0, none⟩ (.slice p5 n5 k5)).setCell ⟨q2, 1, none⟩ (.int .i64 n') = w6 at *
  have a6 : w6.cell? ⟨q, 0, none⟩ = some (.slice p3 n3 k3) := Y6.out.b.cell rfl
  have b6 : w6.cell? ⟨q, 1, none⟩ = some (.int .i64 n') := Y6.out.b.cell rfl
  have c6 : w6.cell? ⟨q2, 0, none⟩ = some (.slice p5 n5 k5) := X6.out.b.cell rfl
  have d6 : w6.cell? ⟨q2, 1, none⟩ = some (.int .i64 n') := X6.out.b.cell rfl
  go_wp2_with fail
  refine (sameG_yes p5 n5 k5 n' H5 p3 n3 k3 H3 w6 X6.out.g Y6.out.g F5.out.1 F3.out.1 (F5.out.2.1.trans F3.out.2.1.symm) (by have := F5.out.2.2; omega)).mono ?_
  rintro e w7 ⟨rfl, hb7⟩
  have L7 := Hid.mk' (bT L6.out hb7)
  clear hb7 L6 X6 Y6 a6 b6 c6 d6
  dsimp only
  go_wp2
  go_ret
  exact ⟨rfl, L7.out⟩
end Go.Proofs.Ytaahklapoppgaaa
