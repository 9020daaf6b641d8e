/- The program's Add. -/
import Derived.Test.YtaahklapoppgaaaQm22
import Derived.Test.YtaahklapoppgaaaQm24
import Derived.Test.YtaahklapoppgaaaQm18
import Derived.Test.YtaahklapoppgaaaQm25
namespace Go.Proofs.Ytaahklapoppgaaa
open Go.RowKit

set_option maxRecDepth 8000
noncomputable def addE (D : List Nd) (now : Int) (x : Nd) : Int := ti (Right D now) (ti (Sound x) (ti (4096 < D.length) 183 0) 2) 180
/-- what Add gives -/
def AdP (z : Int) (D : List Nd) (now : Int) (w : World) (e : Ending) (w' : World) : Prop := (z = 0 → ∃ B H X S k, e = .returned (.tuple #[.agg #[.slice (some ⟨B, 0, none⟩) H.length k, .int .i64 now], .int .i64 0]) ∧ H.map Nr.d = D ∧ H.length ≤ k ∧ Hst w.heap.size w'.heap.size w' B H X S ∧ Below w.heap.size w w') ∧ (z ≠ 0 → e = .returned (.tuple #[.agg #[.slice none 0 0, .int .i64 0], .int .i64 z]) ∧ Below w.heap.size w w')
theorem AdP.no {z : Int} {D : List Nd} {now : Int} {w w' : World} (hz : z ≠ 0) (h : Below w.heap.size w w') : AdP z D now w (.returned (.tuple #[.agg #[.slice none 0 0, .int .i64 0], .int .i64 z])) w' := ⟨fun e => absurd e hz, fun _ => ⟨rfl, h⟩⟩
/-- what lies ahead: the arguments, the result, the new change -/
structure A5 (w W : World) (ao : Option Addr) (n c : Nat) (now : Int) (was made : List Int) (r : Nr) : Prop where
  b1 : Blk W w.heap.size 24 #[.slice ao n c, .int .i64 now]
  b2 : Blk W (w.heap.size + 1) 41 (mk was)
  b3 : Blk W (w.heap.size + 1 + 1) 41 (mk made)
  b4 : Blk W (w.heap.size + 1 + 1 + 1) 24 #[.slice none 0 0, .int .i64 0]
  b5 : Blk W (w.heap.size + 1 + 1 + 1 + 1) 63 (nd r)
  bel : Below w.heap.size w W
theorem A5.keep {w W W' : World} {ao : Option Addr} {n c : Nat} {now : Int} {was made : List Int} {r : Nr} (h : A5 w W ao n c now was made r) (hb : Below W.heap.size W W') : A5 w W' ao n c now was made r := ⟨h.b1.keep hb, h.b2.keep hb, h.b3.keep hb, h.b4.keep hb, h.b5.keep hb, bT h.bel hb⟩
theorem a5_new (w : World) (ao : Option Addr) (n c : Nat) (now : Int) (was made : List Int) (r : Nr) : A5 w (((((w.alloc (.cells #[.slice ao n c, .int .i64 now] 24)).alloc (.cells (mk was) 41)).alloc (.cells (mk made) 41)).alloc (.cells #[.slice none 0 0, .int .i64 0] 24)).alloc (.cells (nd r) 63)) ao n c now was made r := by
  have e1 := Blk.new w 24 #[.slice ao n c, .int .i64 now]
  have e2 := Blk.new (w.alloc (.cells #[.slice ao n c, .int .i64 now] 24)) 41 (mk was)
  have e3 := Blk.new ((w.alloc (.cells #[.slice ao n c, .int .i64 now] 24)).alloc (.cells (mk was) 41)) 41 (mk made)
  have e4 := Blk.new (((w.alloc (.cells #[.slice ao n c, .int .i64 now] 24)).alloc (.cells (mk was) 41)).alloc (.cells (mk made) 41)) 24 #[.slice none 0 0, .int .i64 0]
  have e5 := Blk.new ((((w.alloc (.cells #[.slice ao n c, .int .i64 now] 24)).alloc (.cells (mk was) 41)).alloc (.cells (mk made) 41)).alloc (.cells #[.slice none 0 0, .int .i64 0] 24)) 63 (nd r)
  simp only [World.size_alloc] at e2 e3 e4 e5
  have k : ∀ {W : World} {B e : Nat} {cs : Array Value} (o : Obj), Blk W B e cs → Blk (W.alloc o) B e cs := fun o h => h.keep (bAlloc (Below.refl _ _) _)
  exact ⟨k _ (k _ (k _ (k _ e1))), k _ (k _ (k _ e2)), k _ (k _ e3), k _ e4, e5, bAlloc (bAlloc (bAlloc (bAlloc (bAlloc (Below.refl _ _) _) _) _) _) _⟩
theorem A5.put {w W : World} {ao : Option Addr} {n c : Nat} {now : Int} {was made : List Int} {r : Nr} (h : A5 w W ao n c now was made r) (hr : r.cs.length = 58) (r' : Nr) (hr' : r'.cs.length = 58) : A5 w (W.setCells (w.heap.size + 1 + 1 + 1 + 1) 0 r'.cs) ao n c now was made r' := by
  refine ⟨blk_setCells_off (by omega) _ _ h.b1, blk_setCells_off (by omega) _ _ h.b2, blk_setCells_off (by omega) _ _ h.b3, blk_setCells_off (by omega) _ _ h.b4, ?_, below_setCells (by omega) _ _ h.bel⟩
  exact put_blk (by rw [hr, hr']) h.b5
/-- the edits of a change of one's own -/
def Nr.wE (r : Nr) (a : Option Addr) (c : Nat) (F : List Er) : Nr := { r with ea := a, en := F.length, ec := c, E := F }
theorem A5.eds {w W : World} {ao : Option Addr} {n c : Nat} {now : Int} {was made : List Int} {r : Nr} (h : A5 w W ao n c now was made r) (a : Option Addr) (k : Nat) (F : List Er) : A5 w (W.setCell ⟨w.heap.size + 1 + 1 + 1 + 1, 2, none⟩ (.slice a F.length k)) ao n c now was made (r.wE a k F) := by
  refine ⟨h.b1.off (by omega) _, h.b2.off (by omega) _, h.b3.off (by omega) _, h.b4.off (by omega) _, ?_, h.bel.setCell (by show w.heap.size ≤ w.heap.size + 1 + 1 + 1 + 1; omega) _⟩
  have := h.b5.set (j := 2) (.slice a F.length k)
  have e : (nd r).setIfInBounds 2 (.slice a F.length k) = nd (r.wE a k F) := by unfold nd Nr.cs Nr.hd; rw [List.setIfInBounds_toArray]; rfl
  rwa [e] at this
theorem A5.low {lo : Nat} {w W W' : World} {ao : Option Addr} {n c : Nat} {now : Int} {was made : List Int} {r : Nr} (h : A5 w W ao n c now was made r) (hb : Below lo W W') (hl : w.heap.size + 1 + 1 + 1 + 1 < lo) : A5 w W' ao n c now was made r := by
  have k : ∀ {B e : Nat} {cs : Array Value}, Blk W B e cs → B < lo → Blk W' B e cs := fun h1 h2 => by unfold Blk; rw [hb.block _ h2]; exact h1
  exact ⟨k h.b1 (by omega), k h.b2 (by omega), k h.b3 (by omega), k h.b4 (by omega), k h.b5 (by omega), h.bel.trans (hb.mono (by omega))⟩
/-- a change behind the others -/
theorem add_row {lo hi B a b q n : Nat} {W : World} {H : List Nr} {X : List Value} {S : List (Nat × Nat)} {r : Nr} (h : Hst lo hi W B H X S) (hn : H.length = n) (hX : X.length = 58) (hb4 : n ≤ 4097) (hr : Nw a b W r) (hab : a ≤ b) (hbl : b ≤ lo) (hq : Blk W q 63 (nd r)) :
    ∃ B2 k W2 X2, (∀ ty, (Builtin.append_ #[22, 22] ty #[.slice (some ⟨B, 0, none⟩) n (n + 1), .slice (some ⟨q, 0, none⟩) 1 1]).run Try.prog W = .ok (.slice (some ⟨B2, 0, none⟩) (n + 1) k) W2) ∧ n + 1 ≤ k ∧ Nrow W2 B2 (H ++ [r]) X2 ∧ Gow a hi W2 B2 (H ++ [r]) (S ++ [(a, b)]) ∧ a ≤ B2 ∧ B2 < W2.heap.size ∧ (B2 = B ∨ W.heap.size ≤ B2) ∧ W.grownBy W2 (some B) := by
  obtain ⟨i0, hi0, hz0, hz1, hz2⟩ := info_parts info63b
  have hcl : r.cs.length = 58 := hr.nz.cl
  have hl := ncs_len h.gow.ok
  rw [hn] at hl
  have hrow := h.row
  have hl0 := h.l0
  have hh0 := h.h0
  have htop := h.top
  have hown : W.ownsRow lo 63 58 (.slice (some ⟨B, 0, none⟩) n (n + 1)) n (ncs H) := ⟨hl, .inr ⟨B, n + 1, _, rfl, hl0, hrow, by omega, by unfold maxLen; omega, by simp [hl, hX]; omega, by rw [List.toList_toArray, List.take_append_of_le_length (by omega), List.take_of_length_le (by omega)]⟩⟩
  obtain ⟨v', W2, hrun, ho, hg, -, hf⟩ := run_append_own_at (P := Try.prog) W lo 22 22 63 i0 _ 58 480 Try.underlying22 hi0 hz0 hz1 hz2 (by show zr.cs.toArray.size = 58; rfl) (by decide) (.slice (some ⟨B, 0, none⟩) n (n + 1)) n (ncs H) hown ⟨q, 0, none⟩ 1 1 r.cs (by omega) (fun j u hj => by have := range_blk hq j u hj; rw [add_none]; exact this) r.one (by unfold maxLen; omega) (by omega) (by omega)
  have hg' : W.grownBy W2 (some B) := hg
  rcases ho.2 with ⟨-, h0⟩ | ⟨B2, k, cur, rfl, hlo2, hc, hk, -, hsz, htk⟩
  · omega
  have hB2 : B2 = B ∨ W.heap.size ≤ B2 := by
    rcases hf with e | e
    · simp [Value.ownBlock] at e; exact .inl e
    · simp [Value.ownBlock] at e; exact .inr (by omega)
  have hlt2 : B2 < W2.heap.size := by
    have := hc
    rcases Nat.lt_or_ge B2 W2.heap.size with h | h
    · exact h
    · rw [Array.getElem?_eq_none h] at this; cases this
  have hgow : Gow lo hi W2 B H S := h.gow.at hg'
  have hnw : Nw a b W2 r := hr.kept (Kept.one hg') (.inr (by omega))
  refine ⟨B2, k, W2, cur.toList.drop ((n + 1) * 58), fun ty => hrun, hk, ?_, ?_, by omega, hlt2, hB2, hg'⟩
  · unfold Nrow Blk
    have e : ncs (H ++ [r]) ++ cur.toList.drop ((n + 1) * 58) = cur.toList := by
      rw [ncs_append, show ncs [r] = r.cs by simp [ncs], ← htk, List.take_append_drop]
    rw [e, hc]
  · have hs := hgow.snoc2 (lo' := a) (hi' := hi) (p := (a, b)) hnw (.inr hbl) hab ⟨by omega, by omega⟩ ⟨by omega, Nat.le_refl _⟩ (.inr (by show b ≤ B; omega))
    rcases hB2 with rfl | hn2
    · exact hs
    · refine ⟨hs.len, hs.own, fun k p hp => ?_, hs.ord⟩
      have h1 := hs.off k p hp
      refine ⟨.inr ?_, h1.2⟩
      rcases snoc_at hp with hp' | ⟨-, rfl⟩
      · have := h.gow.off k p hp'; omega
      · show b ≤ B2; omega
theorem Nrow.nx {W : World} {B j : Nat} {H : List Nr} {X : List Value} {s : Nr} (h : Nrow W B H X) (ho : Ok58 H) (hs : H[j]? = some s) (i : Int) : Nrow (W.setCell ⟨B, j * 58 + 1, none⟩ (.int .i64 i)) B (H.set j (s.to i)) X := h.put (a := [.int .i64 s.par]) (old := [.int .i64 s.nxt]) (vs := [.int .i64 i]) (b := .slice s.ea s.en s.ec :: .int .i64 s.cur :: (ml s.was ++ ml s.made)) ho hs rfl rfl rfl
theorem Hst.nx {lo hi B j : Nat} {W : World} {H : List Nr} {X : List Value} {S : List (Nat × Nat)} {s : Nr} (h : Hst lo hi W B H X S) (hs : H[j]? = some s) (i : Int) : Hst lo hi (W.setCell ⟨B, j * 58 + 1, none⟩ (.int .i64 i)) B (H.set j (s.to i)) X S := by
  have hg : W.grownBy (W.setCell ⟨B, j * 58 + 1, none⟩ (.int .i64 i)) (some B) := grown_set _ _ _ _
  have hz := h.gow.nz hs
  exact ⟨h.row.nx h.gow.ok hs i, (h.gow.at hg).set hs ⟨rfl, rfl, rfl, rfl⟩ hz.ww hz.wm, h.l0, h.h0, Nat.le_trans h.top hg.size⟩
set_option maxHeartbeats 16000000 in
set_option linter.unusedSimpArgs false in
theorem add_walk (Z : Nr) (hZ : Z.cs.length = 58) (hz63 : ∀ w, (zeroValue 63).run Try.prog w = .ok (.agg (nd Z)) w) (ao : Option Addr) (n c : Nat) (now : Int) (G : List Nr) (ea : Option Addr) (en ec : Nat) (E : List Er) (cur : Int) (was made : List Int) (w : World) (HG : Hid (Grz w ao G)) (hn : G.length = n) (hc : n ≤ c) (HR : Hid (Nz w ⟨now, 0, ea, en, ec, E, cur, was, made⟩)) :
    Calls Try.prog 20 #[.agg #[.slice ao n c, .int .i64 now], .slice ea en ec, .int .i64 cur, .agg (mk was), .agg (mk made)] w fun e w' => AdP (addE (G.map Nr.d) now ⟨now, 0, E.map Er.d, cur, was, made⟩) (addG (G.map Nr.d) now ⟨now, 0, E.map Er.d, cur, was, made⟩) (n : Int) w e w' := by
  have hwl : was.length = 27 := HR.out.ww.len
  have hml : made.length = 27 := HR.out.wm.len
  have hcl := HR.out.cl
  have hbd := fun w => b63 w now cur ea en ec E hwl hml
  obtain ⟨r, hr⟩ : ∃ r : Nr, r = ⟨now, 0, ea, en, ec, E, cur, was, made⟩ := ⟨_, rfl⟩
  rw [← hr] at hbd hcl
  have hrd : r.d = ⟨now, 0, E.map Er.d, cur, was, made⟩ := by rw [hr]; rfl
  have HRz : Hid (Nz w r) := by unfold Hid; rw [hr]; exact HR.out
  rw [← hrd]
  have HRe : Hid (r.ea = ea ∧ r.en = en ∧ r.ec = ec ∧ r.E = E ∧ r.par = now ∧ r.nxt = 0) := by unfold Hid; rw [hr]; exact ⟨rfl, rfl, rfl, rfl, rfl, rfl⟩
  clear hr hrd HR
  obtain ⟨W1, hW1⟩ : ∃ W1, ((((w.alloc (.cells #[.slice ao n c, .int .i64 now] 24)).alloc (.cells (mk was) 41)).alloc (.cells (mk made) 41)).alloc (.cells #[.slice none 0 0, .int .i64 0] 24)) = W1 := ⟨_, rfl⟩
  have hs1 : W1.heap.size = w.heap.size + 1 + 1 + 1 + 1 := by rw [← hW1]; simp
  obtain ⟨W2, hW2⟩ : ∃ W2, W1.alloc (.cells (nd Z) 63) = W2 := ⟨_, rfl⟩
  have U2 : Hid (A5 w W2 ao n c now was made Z) := by unfold Hid; rw [← hW2, ← hW1]; exact a5_new w ao n c now was made Z
  have U3 : Hid (A5 w (W2.setCells (w.heap.size + 1 + 1 + 1 + 1) 0 r.cs) ao n c now was made r) := U2.out.put hZ r hcl
  have M1 : Hid (Blk W1 (w.heap.size + 1) 41 (mk was) ∧ Blk W1 (w.heap.size + 1 + 1) 41 (mk made)) := by
    unfold Hid
    rw [← hW1]
    have e2 := Blk.new (w.alloc (.cells #[.slice ao n c, .int .i64 now] 24)) 41 (mk was)
    have e3 := Blk.new ((w.alloc (.cells #[.slice ao n c, .int .i64 now] 24)).alloc (.cells (mk was) 41)) 41 (mk made)
    simp only [World.size_alloc] at e2 e3
    exact ⟨(e2.keep (bAlloc (Below.refl _ _) _)).keep (bAlloc (Below.refl _ _) _), e3.keep (bAlloc (Below.refl _ _) _)⟩
  have d1 : W1.cell? ⟨w.heap.size, 1, none⟩ = some (.int .i64 now) := by
    rw [← hW1]
    exact ((((Blk.new w 24 #[.slice ao n c, .int .i64 now]).keep (bAlloc (Below.refl _ _) _)).keep (bAlloc (Below.refl _ _) _)).keep (bAlloc (Below.refl _ _) _)).cell rfl
  have C17 := fun V (hV : Below w.heap.size w V) => check_any ao n c now G V (HG.out.keep hV) hn hc
  have hlen : Hid ((G.map Nr.d).length = n) := by unfold Hid; rw [List.length_map, hn]
  have HN := mkH hn
  have HC17 := mkH C17
  have hZn : nd Z ≠ #[] := fun h => by have := congrArg Array.size h; simp [nd, hZ] at this
  clear C17 hn
  go_enter Try.func20, Try.ntmps20
  go_upto_region 1 with fail
  have HBD := mkH hbd
  clear hbd
  go_upto_region 2 with (first | refine wl_bld rfl 63 _ rfl #[(0, .int .i64 now), (2, .slice ea en ec), (3, .int .i64 cur), (4, .agg (mk was)), (5, .agg (mk made))] (by kernel_rfl) (HBD.out _) ?_ | refine wl_ld41 (B := w.heap.size + 1) (o := 0) (.tmp 8) rfl rfl rfl hwl (range_blk M1.out.1) ?_ | refine wl_ld41 (B := w.heap.size + 1 + 1) (o := 0) (.tmp 9) rfl rfl rfl hml (range_blk M1.out.2) ?_ | refine wl_st63 (B := w.heap.size + 1 + 1 + 1 + 1) (o := 0) (r := r) (.tmp 12) (.tmp 20) rfl rfl rfl rfl hcl (by have := there_blk (cs := Z.cs) U2.out.b5; rwa [hZ] at this) ?_ | fail)
  clear hW1 hW2 hs1 M1 d1 HBD U2 hz63
  generalize W2.setCells (w.heap.size + 1 + 1 + 1 + 1) 0 r.cs = w3 at *
  have a3 : w3.cell? ⟨w.heap.size, 0, none⟩ = some (.slice ao n c) := U3.out.b1.cell rfl
  have b3 : w3.cell? ⟨w.heap.size, 1, none⟩ = some (.int .i64 now) := U3.out.b1.cell rfl
  by_cases hr : Right (G.map Nr.d) now
  · have C17' := HC17
    unfold Hid at C17'
    rw [ti_t hr] at C17'
    replace C17' := mkH C17'
    have C52 := fun W (hW : A5 w W ao n c now was made r) => sound_any r (w.heap.size + 1 + 1 + 1 + 1) 0 W (HRz.out.keep hW.bel) (Nc.of (range_blk hW.b5) HRz.out.ww.len)
    by_cases hs : Sound r.d
    · rw [tb_t hs] at C52
      have C52' := mkH C52
      by_cases hm : 4096 < n
      · have hq : Hid (addE (G.map Nr.d) now r.d = 183) := by unfold Hid addE; rw [ti_t hr, ti_t hs, hlen.out, ti_t hm]
        have hm1 : (4096 : Int) < (n : Int) := by omega
        clear C52 hr hs hm
        go_wp2_with (first | (go_at_call 17; refine (C17'.out _ U3.out.bel).mono ?_; rintro e w4 ⟨rfl, hw⟩; have U4a := mkH (U3.out.keep hw); have a4 := cell_keep a3 hw; have b4 := cell_keep b3 hw; have e40 : w4.cell? ⟨w.heap.size + 1 + 1 + 1, 0, none⟩ = some (.slice none 0 0) := U4a.out.b4.cell rfl; have e41 : w4.cell? ⟨w.heap.size + 1 + 1 + 1, 1, none⟩ = some (.int .i64 0) := U4a.out.b4.cell rfl; have f40 : w4.frozen? ⟨w.heap.size + 1 + 1 + 1, 0, none⟩ = false := U4a.out.b4.frozen _; have f41 : w4.frozen? ⟨w.heap.size + 1 + 1 + 1, 1, none⟩ = false := U4a.out.b4.frozen _; clear hw) | (go_at_call 52; refine (C52'.out w4 U4a.out).mono ?_; rintro e w5 ⟨rfl, hw⟩; have U5a := mkH (U4a.out.keep hw); have a5 := cell_keep a4 hw; have b5 := cell_keep b4 hw; have e50 : w5.cell? ⟨w.heap.size + 1 + 1 + 1, 0, none⟩ = some (.slice none 0 0) := U5a.out.b4.cell rfl; have e51 : w5.cell? ⟨w.heap.size + 1 + 1 + 1, 1, none⟩ = some (.int .i64 0) := U5a.out.b4.cell rfl; have f50 : w5.frozen? ⟨w.heap.size + 1 + 1 + 1, 0, none⟩ = false := U5a.out.b4.frozen _; have f51 : w5.frozen? ⟨w.heap.size + 1 + 1 + 1, 1, none⟩ = false := U5a.out.b4.frozen _; clear hw) | fail)
        have N4 : Blk ((w5.setCell ⟨w.heap.size + 1 + 1 + 1, 0, none⟩ (.slice none 0 0)).setCell ⟨w.heap.size + 1 + 1 + 1, 1, none⟩ (.int .i64 0)) (w.heap.size + 1 + 1 + 1) 24 #[.slice none 0 0, .int .i64 0] := set24 U5a.out.b4
        have LB : Below w.heap.size w ((w5.setCell ⟨w.heap.size + 1 + 1 + 1, 0, none⟩ (.slice none 0 0)).setCell ⟨w.heap.size + 1 + 1 + 1, 1, none⟩ (.int .i64 0)) := (U5a.out.bel.setCell (by show w.heap.size ≤ w.heap.size + 1 + 1 + 1; omega) _).setCell (by show w.heap.size ≤ w.heap.size + 1 + 1 + 1; omega) _
        generalize (w5.setCell ⟨w.heap.size + 1 + 1 + 1, 0, none⟩ (.slice none 0 0)).setCell ⟨w.heap.size + 1 + 1 + 1, 1, none⟩ (.int .i64 0) = w9 at *
        have l24 := ld24v N4
        exact bodyPost_ret (v := .tuple #[.agg #[.slice none 0 0, .int .i64 0], .int .i64 183]) (by simp [results, Try.results20, asAddr, l24]) rfl (by rw [hq.out]; exact AdP.no (by decide) LB)
      · have hq : Hid (addE (G.map Nr.d) now r.d = 0) := by unfold Hid addE; rw [ti_t hr, ti_t hs, hlen.out, ti_f hm]
        have hsz := hr.sz
        rw [sized_iff, HN.out] at hsz
        obtain ⟨i, rfl⟩ : ∃ i : Nat, now = (i : Int) := ⟨now.toNat, by omega⟩
        have hm1 : ¬ (4096 : Int) < (n : Int) := by omega
        have hi' : (i : Int) < (n : Int) := by omega
        have hi0 : (0 : Int) ≤ (i : Int) := by omega
        obtain ⟨g, o, rfl, -⟩ := HG.out.base (by have := HN.out; omega)
        have C53 := mkH (fun V (hV : Below w.heap.size w V) => copyEdits_any r.ea r.en r.ec r.E V (HRz.out.ez.keep hV) HRz.out.len HRz.out.nil HRz.out.big)
        rw [HRe.out.1, HRe.out.2.1, HRe.out.2.2.1] at C53
        have C540 := fun V (hV : Below w.heap.size w V) => copyGrove_any g o n c 1 (i : Int) G V (HG.out.keep hV) HN.out hsz.1 (by omega)
        have C54 : Hid (∀ V, Below w.heap.size w V → Calls Try.prog 54 #[.agg #[.slice (some ⟨g, o, none⟩) n c, .int .i64 (i : Int)], .int .i64 1] V fun e w' => CgP (G.map Nr.d) (i : Int) 1 V e w') := C540
        have HLe := hlen
        have HIn : Hid (i < n) := by unfold Hid; omega
        have HMn : Hid (n ≤ 4096) := by unfold Hid; omega
        clear C52 C540 hr hs hm hsz
        go_wp2_with (first | (go_at_call 17; refine (C17'.out _ U3.out.bel).mono ?_; rintro e w4 ⟨rfl, hw⟩; have U4a := mkH (U3.out.keep hw); have a4 := cell_keep a3 hw; have b4 := cell_keep b3 hw; have e40 : w4.cell? ⟨w.heap.size + 1 + 1 + 1, 0, none⟩ = some (.slice none 0 0) := U4a.out.b4.cell rfl; have e41 : w4.cell? ⟨w.heap.size + 1 + 1 + 1, 1, none⟩ = some (.int .i64 0) := U4a.out.b4.cell rfl; have f40 : w4.frozen? ⟨w.heap.size + 1 + 1 + 1, 0, none⟩ = false := U4a.out.b4.frozen _; have f41 : w4.frozen? ⟨w.heap.size + 1 + 1 + 1, 1, none⟩ = false := U4a.out.b4.frozen _; clear hw) | (go_at_call 52; refine (C52'.out w4 U4a.out).mono ?_; rintro e w5 ⟨rfl, hw⟩; have U5a := mkH (U4a.out.keep hw); have a5 := cell_keep a4 hw; have b5 := cell_keep b4 hw; have e50 : w5.cell? ⟨w.heap.size + 1 + 1 + 1, 0, none⟩ = some (.slice none 0 0) := U5a.out.b4.cell rfl; have e51 : w5.cell? ⟨w.heap.size + 1 + 1 + 1, 1, none⟩ = some (.int .i64 0) := U5a.out.b4.cell rfl; have f50 : w5.frozen? ⟨w.heap.size + 1 + 1 + 1, 0, none⟩ = false := U5a.out.b4.frozen _; have f51 : w5.frozen? ⟨w.heap.size + 1 + 1 + 1, 1, none⟩ = false := U5a.out.b4.frozen _; clear hw) | fail)
        refine (C53.out w5 U5a.out.bel).mono ?_
        rintro e w6 ⟨v, F, rfl, hFd, hL⟩
        obtain ⟨va, vc, rfl⟩ := own_shape hL.own
        have U6 := mkH (U5a.out.keep hL.bel)
        have L6 : Hid (Ls w5.heap.size w6.heap.size w6 (.slice va F.length vc) F) := Ls.of hL
        have HF := mkH hFd
        have HS5 : Hid (w.heap.size + 1 + 1 + 1 + 1 < w5.heap.size ∧ w5.heap.size ≤ w6.heap.size) := ⟨U5a.out.b5.lt, hL.bel.size⟩
        have a6 := cell_keep a5 hL.bel
        have b6 := cell_keep b5 hL.bel
        have g6 : w6.cell? ⟨w.heap.size + 1 + 1 + 1 + 1, 2, none⟩ = some (.slice r.ea r.en r.ec) := range_blk U6.out.b5 2 _ rfl
        have f6 : w6.frozen? ⟨w.heap.size + 1 + 1 + 1 + 1, 2, none⟩ = false := U6.out.b5.frozen _
        have U7 := mkH (U6.out.eds va vc F)
        have L7 : Hid (Ls w5.heap.size w6.heap.size (w6.setCell ⟨w.heap.size + 1 + 1 + 1 + 1, 2, none⟩ (.slice va F.length vc)) (.slice va F.length vc) F) := L6.out.kept (Kept.one (grown_set _ _ _ _)) (.inl (by have := HS5.out.1; omega))
        have HS7 : Hid (w6.heap.size = (w6.setCell ⟨w.heap.size + 1 + 1 + 1 + 1, 2, none⟩ (.slice va F.length vc)).heap.size) := by unfold Hid; simp
        clear hL hFd U5a a5 b5 e50 e51 f50 f51 L6 C53
        go_upto_region 9 with fail
        clear g6 f6 U6
        generalize w6.setCell ⟨w.heap.size + 1 + 1 + 1 + 1, 2, none⟩ (.slice va F.length vc) = w7 at *
        have a7 : w7.cell? ⟨w.heap.size, 0, none⟩ = some (.slice (some ⟨g, o, none⟩) n c) := U7.out.b1.cell rfl
        have b7 : w7.cell? ⟨w.heap.size, 1, none⟩ = some (.int .i64 (i : Int)) := U7.out.b1.cell rfl
        clear a6 b6
        go_wp2_with fail
        refine (C54.out w7 U7.out.bel).mono ?_
        rintro e w8 ⟨B, H, X, S, he, hHd, hX, hH, hB⟩
        rw [HLe.out] at he
        subst he
        have U8 := mkH (U7.out.keep hB)
        have L8 := mkH (L7.out.keep hB)
        have H8 : Hid (Hst w7.heap.size w8.heap.size w8 B H X S) := hH
        have HHd := mkH hHd
        have HX : Hid (X.length = 58) := by unfold Hid; rw [hX]
        have HB : Hid (w7.heap.size ≤ B ∧ B < w8.heap.size) := ⟨hH.l0, hH.h0⟩
        obtain ⟨q, hq⟩ : ∃ q, w8.heap.size = q := ⟨_, rfl⟩
        obtain ⟨W9, hW9⟩ : ∃ x, w8.alloc (.cells #[.slice none 0 0, .int .i64 0] 24) = x := ⟨_, rfl⟩
        have U9 : Hid (A5 w W9 (some ⟨g, o, none⟩) n c (i : Int) was made (r.wE va vc F)) := by unfold Hid; rw [← hW9]; exact U8.out.keep (bAlloc (Below.refl _ _) _)
        have L9 : Hid (Ls w5.heap.size w6.heap.size W9 (.slice va F.length vc) F) := by unfold Hid; rw [← hW9]; exact L8.out.keep (bAlloc (Below.refl _ _) _)
        have H9 : Hid (Hst w7.heap.size q W9 B H X S) := by unfold Hid; rw [← hW9, ← hq]; exact H8.out.keep (bAlloc (Below.refl _ _) _)
        have K9 : Hid (Blk W9 q 24 #[.slice none 0 0, .int .i64 0]) := by unfold Hid; rw [← hW9, ← hq]; exact Blk.new w8 24 _
        have HBq : Hid (B < q ∧ w7.heap.size ≤ q ∧ w.heap.size + 1 + 1 + 1 + 1 < q ∧ w7.heap.size ≤ B) := by unfold Hid; rw [← hq]; exact ⟨HB.out.2, by have := HB.out; omega, U8.out.b5.lt, HB.out.1⟩
        have k0 : W9.cell? ⟨q, 0, none⟩ = some (.slice none 0 0) := K9.out.cell rfl
        have k1 : W9.cell? ⟨q, 1, none⟩ = some (.int .i64 0) := K9.out.cell rfl
        have m0 : W9.frozen? ⟨q, 0, none⟩ = false := K9.out.frozen _
        have m1 : W9.frozen? ⟨q, 1, none⟩ = false := K9.out.frozen _
        clear hHd hX hH hB U7 L7 H8 U8 L8 HB a7 b7 C54
        go_upto_region 10 with fail
        clear hW9 hq k0 k1 m0 m1
        have K10 : Hid (Blk ((W9.setCell ⟨q, 0, none⟩ (.slice (some ⟨B, 0, none⟩) n (n + 1))).setCell ⟨q, 1, none⟩ (.int .i64 (i : Int))) q 24 #[.slice (some ⟨B, 0, none⟩) n (n + 1), .int .i64 (i : Int)]) := set24 K9.out
        have KK : Hid (Kept q (q + 1) W9 ((W9.setCell ⟨q, 0, none⟩ (.slice (some ⟨B, 0, none⟩) n (n + 1))).setCell ⟨q, 1, none⟩ (.int .i64 (i : Int)))) := (Kept.one (grown_set _ _ _ _)).trans (Kept.one (grown_set _ _ _ _))
        have U10 : Hid (A5 w ((W9.setCell ⟨q, 0, none⟩ (.slice (some ⟨B, 0, none⟩) n (n + 1))).setCell ⟨q, 1, none⟩ (.int .i64 (i : Int))) (some ⟨g, o, none⟩) n c (i : Int) was made (r.wE va vc F)) := (U9.out.low (lo := q) ((Below.refl q _).setCell (Nat.le_refl _) _) (by have := HBq.out; omega)).low (lo := q) ((Below.refl q _).setCell (Nat.le_refl _) _) (by have := HBq.out; omega)
        generalize (W9.setCell ⟨q, 0, none⟩ (.slice (some ⟨B, 0, none⟩) n (n + 1))).setCell ⟨q, 1, none⟩ (.int .i64 (i : Int)) = w10 at *
        have H10 : Hid (Hst w7.heap.size q w10 B H X S) := H9.out.kept KK.out (.inr (Nat.le_refl _))
        have L10 : Hid (Ls w5.heap.size w6.heap.size w10 (.slice va F.length vc) F) := L9.out.kept KK.out (.inr (by have := HBq.out; have := HS7.out; omega))
        clear U9 L9 H9 K9 KK
        have hHn : H.length = n := by have := congrArg List.length HHd.out; rw [List.length_map, HLe.out] at this; exact this
        obtain ⟨s, hs⟩ : ∃ s, H[i]? = some s := ⟨_, List.getElem?_eq_getElem (by rw [hHn]; exact HIn.out)⟩
        have HHn := mkH hHn
        have HHs := mkH hs
        clear hHn hs
        have t10 := Nrow.there (a := [.int .i64 s.par]) (old := [.int .i64 s.nxt]) (b := .slice s.ea s.en s.ec :: .int .i64 s.cur :: (ml s.was ++ ml s.made)) H10.out.row H10.out.gow.ok HHs.out rfl 0 (by show 0 < 1; omega)
        obtain ⟨⟨x10, hx10⟩, hf10⟩ : (∃ x, w10.cell? ⟨B, i * 58 + 1, none⟩ = some x) ∧ w10.frozen? ⟨B, i * 58 + 1, none⟩ = false := by
          obtain ⟨t1, t2⟩ := t10
          exact ⟨Option.isSome_iff_exists.1 t1, t2⟩
        have p0 : w10.cell? ⟨q, 0, none⟩ = some (.slice (some ⟨B, 0, none⟩) n (n + 1)) := K10.out.cell rfl
        have p1 : w10.cell? ⟨q, 1, none⟩ = some (.int .i64 (i : Int)) := K10.out.cell rfl
        clear t10
        go_upto_region 11 with fail
        clear hx10 hf10 p0 p1
        have K11 : Hid (Blk (w10.setCell ⟨B, i * 58 + 1, none⟩ (.int .i64 (n : Int))) q 24 #[.slice (some ⟨B, 0, none⟩) n (n + 1), .int .i64 (i : Int)]) := K10.out.off (by have := HBq.out; omega) _
        have U11 := mkH (U10.out.low (lo := w7.heap.size) (show Below w7.heap.size w10 (w10.setCell ⟨B, i * 58 + 1, none⟩ (.int .i64 (n : Int))) from (Below.refl _ _).setCell (by show w7.heap.size ≤ B; have := HBq.out; omega) _) (by have := HS7.out; have := HS5.out; omega))
        have H11 := mkH (H10.out.nx HHs.out (n : Int))
        have L11 : Hid (Ls w5.heap.size w6.heap.size (w10.setCell ⟨B, i * 58 + 1, none⟩ (.int .i64 (n : Int))) (.slice va F.length vc) F) := L10.out.kept (Kept.one (grown_set _ _ _ _)) (.inr (by have := HBq.out; have := HS7.out; omega))
        generalize w10.setCell ⟨B, i * 58 + 1, none⟩ (.int .i64 (n : Int)) = w11 at *
        clear U10 H10 L10 K10
        have p0 : w11.cell? ⟨q, 0, none⟩ = some (.slice (some ⟨B, 0, none⟩) n (n + 1)) := K11.out.cell rfl
        have p1 : w11.cell? ⟨q, 1, none⟩ = some (.int .i64 (i : Int)) := K11.out.cell rfl
        have pf : w11.frozen? ⟨q, 1, none⟩ = false := K11.out.frozen _
        go_upto_region 12 with fail
        clear p0 p1 pf
        have K12 : Hid (Blk (w11.setCell ⟨q, 1, none⟩ (.int .i64 (n : Int))) q 24 #[.slice (some ⟨B, 0, none⟩) n (n + 1), .int .i64 (n : Int)]) := K11.out.set (j := 1) _
        have U12 := mkH (U11.out.low (lo := q) (show Below q w11 (w11.setCell ⟨q, 1, none⟩ (.int .i64 (n : Int))) from (Below.refl _ _).setCell (by show q ≤ q; omega) _) (by have := HBq.out; omega))
        have H12 : Hid (Hst w7.heap.size q (w11.setCell ⟨q, 1, none⟩ (.int .i64 (n : Int))) B (H.set i (s.to (n : Int))) X S) := H11.out.kept (Kept.one (grown_set _ _ _ _)) (.inr (Nat.le_refl _))
        have L12 : Hid (Ls w5.heap.size w6.heap.size (w11.setCell ⟨q, 1, none⟩ (.int .i64 (n : Int))) (.slice va F.length vc) F) := L11.out.kept (Kept.one (grown_set _ _ _ _)) (.inr (by have := HBq.out; have := HS7.out; omega))
        generalize w11.setCell ⟨q, 1, none⟩ (.int .i64 (n : Int)) = w12 at *
        clear U11 H11 L11 K11
        obtain ⟨r2, hr2⟩ : ∃ r2, r.wE va vc F = r2 := ⟨_, rfl⟩
        have hcl2 : r2.cs.length = 58 := by rw [← hr2]; exact Nr.cs_len HRz.out.ww.len HRz.out.wm.len
        have hbs := fun W => bs22 W r2 (by rw [← hr2]; exact HRz.out.ww.len) (by rw [← hr2]; exact HRz.out.wm.len)
        have HN12 : Hid (Nw w5.heap.size w6.heap.size w12 r2) := by
          unfold Hid
          rw [← hr2]
          refine ⟨L12.out, rfl, ?_, HRz.out.ww, HRz.out.wm⟩
          have e1 : F.length = r.en := by
            have := congrArg List.length HF.out
            rw [List.length_map, List.length_map] at this
            rw [this, HRz.out.len]
          show F.length * 56 ≤ _
          rw [e1]
          exact HRz.out.big
        rw [hr2] at U12
        have HR2 := mkH hr2
        clear hr2
        obtain ⟨z, hz⟩ : ∃ z, w12.heap.size = z := ⟨_, rfl⟩
        obtain ⟨W13, hW13⟩ : ∃ x, w12.alloc (.cells (nd r2) 63) = x := ⟨_, rfl⟩
        have K13 : Hid (Blk W13 q 24 #[.slice (some ⟨B, 0, none⟩) n (n + 1), .int .i64 (n : Int)]) := by unfold Hid; rw [← hW13]; exact K12.out.keep (bAlloc (Below.refl _ _) _)
        have U13 : Hid (A5 w W13 (some ⟨g, o, none⟩) n c (i : Int) was made r2) := by unfold Hid; rw [← hW13]; exact U12.out.keep (bAlloc (Below.refl _ _) _)
        have H13 : Hid (Hst w7.heap.size q W13 B (H.set i (s.to (n : Int))) X S) := by unfold Hid; rw [← hW13]; exact H12.out.keep (bAlloc (Below.refl _ _) _)
        have N13 : Hid (Nw w5.heap.size w6.heap.size W13 r2) := by unfold Hid; rw [← hW13]; exact HN12.out.keep (bAlloc (Below.refl _ _) _)
        have Z13 : Hid (Blk W13 z 63 (nd r2)) := by unfold Hid; rw [← hW13, ← hz]; exact Blk.new w12 63 _
        obtain ⟨B2, k2, W14, X2, hap, hk2, R14, H14, hA2, hlt2, hB2, G14⟩ := add_row (n := n) H13.out (by rw [List.length_set]; exact HHn.out) HX.out (by have := HMn.out; omega) N13.out HS5.out.2 (by have := HS7.out; omega) Z13.out
        have K14 : Hid (Blk W14 q 24 #[.slice (some ⟨B, 0, none⟩) n (n + 1), .int .i64 (n : Int)]) := K13.out.grown G14 (fun e => by injection e with e; have := HBq.out; omega)
        have U14 : Hid (A5 w W14 (some ⟨g, o, none⟩) n c (i : Int) was made r2) := U13.out.low (lo := w7.heap.size) ((Below.refl _ _).grown G14 (by have := U13.out.bel.size; have := H13.out.top; have := HBq.out; omega) (fun k hk => by injection hk with hk; have := HBq.out; omega)) (by have := HS7.out; have := HS5.out; omega)
        have HR14 := mkH R14
        have HH14 := mkH H14
        have HK2 := mkH hk2
        have HA2 := mkH hA2
        have HL2 := mkH hlt2
        have HB2 : Hid (B2 ≠ q) := by unfold Hid; have := HBq.out; have := K13.out.lt; omega
        clear R14 H14 G14 hk2 hA2 hlt2 hB2 K13 H13 N13 Z13 H12 L12 HN12
        have HBS : Hid ((Instr.buildSlice 22 1 #[(0, .agg (nd r2))]).run Try.prog w12 = .ok (.slice (some ⟨z, 0, none⟩) 1 1) W13) := by unfold Hid; rw [hbs, hz, hW13]
        have HAP := mkH hap
        clear hap hW13 hz
        have p0 : w12.cell? ⟨q, 0, none⟩ = some (.slice (some ⟨B, 0, none⟩) n (n + 1)) := K12.out.cell rfl
        have q0 : W14.cell? ⟨q, 0, none⟩ = some (.slice (some ⟨B, 0, none⟩) n (n + 1)) := K14.out.cell rfl
        have qf : W14.frozen? ⟨q, 0, none⟩ = false := K14.out.frozen _
        clear hbs
        go_upto_region 13 with (first | refine wl_ld63 (B := w.heap.size + 1 + 1 + 1 + 1) (o := 0) (r := r2) (.tmp 12) rfl rfl rfl hcl2 (range_blk U12.out.b5) ?_ | refine wl_bsl rfl 22 1 _ rfl #[(0, .agg (nd r2))] (by kernel_rfl) HBS.out ?_ | (at_builtin; refine wl_app2 rfl (.tmp 55) (.tmp 57) 22 rfl rfl rfl HAP.out ?_) | fail)
        clear p0 q0 qf HAP
        have K15 : Hid (Blk (W14.setCell ⟨q, 0, none⟩ (.slice (some ⟨B2, 0, none⟩) (n + 1) k2)) q 24 #[.slice (some ⟨B2, 0, none⟩) (n + 1) k2, .int .i64 (n : Int)]) := K14.out.set (j := 0) _
        have U15 := mkH (U14.out.low (lo := q) (show Below q W14 (W14.setCell ⟨q, 0, none⟩ (.slice (some ⟨B2, 0, none⟩) (n + 1) k2)) from (Below.refl _ _).setCell (by show q ≤ q; omega) _) (by have := HBq.out; omega))
        have R15 : Hid (Nrow (W14.setCell ⟨q, 0, none⟩ (.slice (some ⟨B2, 0, none⟩) (n + 1) k2)) B2 (H.set i (s.to (n : Int)) ++ [r2]) X2) := Blk.off HR14.out HB2.out _
        have H15 : Hid (Gow w5.heap.size q (W14.setCell ⟨q, 0, none⟩ (.slice (some ⟨B2, 0, none⟩) (n + 1) k2)) B2 (H.set i (s.to (n : Int)) ++ [r2]) (S ++ [(w5.heap.size, w6.heap.size)])) := HH14.out.kept (Kept.one (grown_set _ _ _ _)) (.inr (Nat.le_refl _))
        have HL15 : Hid (B2 < (W14.setCell ⟨q, 0, none⟩ (.slice (some ⟨B2, 0, none⟩) (n + 1) k2)).heap.size) := by unfold Hid; simpa using HL2.out
        generalize W14.setCell ⟨q, 0, none⟩ (.slice (some ⟨B2, 0, none⟩) (n + 1) k2) = w15 at *
        clear K14 U14 HR14 HH14 HL2 U12 U13 K12
        have p0 : w15.cell? ⟨q, 0, none⟩ = some (.slice (some ⟨B2, 0, none⟩) (n + 1) k2) := K15.out.cell rfl
        have p1 : w15.cell? ⟨q, 1, none⟩ = some (.int .i64 (n : Int)) := K15.out.cell rfl
        have e0 : w15.cell? ⟨w.heap.size + 1 + 1 + 1, 0, none⟩ = some (.slice none 0 0) := U15.out.b4.cell rfl
        have e1 : w15.cell? ⟨w.heap.size + 1 + 1 + 1, 1, none⟩ = some (.int .i64 0) := U15.out.b4.cell rfl
        have f0 : w15.frozen? ⟨w.heap.size + 1 + 1 + 1, 0, none⟩ = false := U15.out.b4.frozen _
        have f1 : w15.frozen? ⟨w.heap.size + 1 + 1 + 1, 1, none⟩ = false := U15.out.b4.frozen _
        go_wp2_with fail
        have N4 : Blk ((w15.setCell ⟨w.heap.size + 1 + 1 + 1, 0, none⟩ (.slice (some ⟨B2, 0, none⟩) (n + 1) k2)).setCell ⟨w.heap.size + 1 + 1 + 1, 1, none⟩ (.int .i64 (n : Int))) (w.heap.size + 1 + 1 + 1) 24 #[.slice (some ⟨B2, 0, none⟩) (n + 1) k2, .int .i64 (n : Int)] := set24 U15.out.b4
        have LB : Below w.heap.size w ((w15.setCell ⟨w.heap.size + 1 + 1 + 1, 0, none⟩ (.slice (some ⟨B2, 0, none⟩) (n + 1) k2)).setCell ⟨w.heap.size + 1 + 1 + 1, 1, none⟩ (.int .i64 (n : Int))) := (U15.out.bel.setCell (by show w.heap.size ≤ w.heap.size + 1 + 1 + 1; omega) _).setCell (by show w.heap.size ≤ w.heap.size + 1 + 1 + 1; omega) _
        have KK : Kept (w.heap.size + 1 + 1 + 1) (w.heap.size + 1 + 1 + 1 + 1) w15 ((w15.setCell ⟨w.heap.size + 1 + 1 + 1, 0, none⟩ (.slice (some ⟨B2, 0, none⟩) (n + 1) k2)).setCell ⟨w.heap.size + 1 + 1 + 1, 1, none⟩ (.int .i64 (n : Int))) := (Kept.one (grown_set _ _ _ _)).trans (Kept.one (grown_set _ _ _ _))
        have hlow : w.heap.size + 1 + 1 + 1 + 1 ≤ w5.heap.size := by have := HS5.out; omega
        have R16 : Nrow ((w15.setCell ⟨w.heap.size + 1 + 1 + 1, 0, none⟩ (.slice (some ⟨B2, 0, none⟩) (n + 1) k2)).setCell ⟨w.heap.size + 1 + 1 + 1, 1, none⟩ (.int .i64 (n : Int))) B2 (H.set i (s.to (n : Int)) ++ [r2]) X2 := Blk.off (Blk.off R15.out (by have := HA2.out; omega) _) (by have := HA2.out; omega) _
        have H16 := H15.out.kept KK (.inl hlow)
        have S16 := KK.size
        generalize (w15.setCell ⟨w.heap.size + 1 + 1 + 1, 0, none⟩ (.slice (some ⟨B2, 0, none⟩) (n + 1) k2)).setCell ⟨w.heap.size + 1 + 1 + 1, 1, none⟩ (.int .i64 (n : Int)) = w16 at *
        have l24 := ld24v N4
        refine bodyPost_ret (v := .tuple #[.agg #[.slice (some ⟨B2, 0, none⟩) (n + 1) k2, .int .i64 (n : Int)], .int .i64 0]) (by simp [results, Try.results20, asAddr, l24]) rfl ?_
        rw [hq.out]
        refine ⟨fun _ => ⟨B2, H.set i (s.to (n : Int)) ++ [r2], X2, S ++ [(w5.heap.size, w6.heap.size)], k2, ?_, ?_, ?_, ⟨R16, H16.wide ?_ ?_, ?_, ?_, Nat.le_refl _⟩, LB⟩, fun e => absurd rfl e⟩
        · rw [List.length_append, List.length_set, HHn.out]; rfl
        · have hsd : at' (G.map Nr.d) i = s.d := by rw [← HHd.out]; exact map_at HHs.out
          unfold addG
          rw [List.map_append, List.map_set, HHd.out, show ((i : Int)).toNat = i by omega, hsd, hlen.out]
          congr 1
          rw [← HR2.out]
          show [(r.wE va vc F).d] = [r.d]
          rw [nd_ext (r' := r.wE va vc F) (r := r) rfl rfl HF.out rfl rfl rfl]
        · rw [List.length_append, List.length_set, HHn.out]; exact HK2.out
        · have := HS5.out; omega
        · have := K15.out.lt; omega
        · have := HA2.out; have := HS5.out; omega
        · have := HL15.out; omega
        
    · rw [tb_f hs] at C52
      have C52' := mkH C52
      have hq : Hid (addE (G.map Nr.d) now r.d = 2) := by unfold Hid addE; rw [ti_t hr, ti_f hs]
      clear C52 hr hs
      go_wp2_with (first | (go_at_call 17; refine (C17'.out _ U3.out.bel).mono ?_; rintro e w4 ⟨rfl, hw⟩; have U4a := mkH (U3.out.keep hw); have a4 := cell_keep a3 hw; have b4 := cell_keep b3 hw; have e40 : w4.cell? ⟨w.heap.size + 1 + 1 + 1, 0, none⟩ = some (.slice none 0 0) := U4a.out.b4.cell rfl; have e41 : w4.cell? ⟨w.heap.size + 1 + 1 + 1, 1, none⟩ = some (.int .i64 0) := U4a.out.b4.cell rfl; have f40 : w4.frozen? ⟨w.heap.size + 1 + 1 + 1, 0, none⟩ = false := U4a.out.b4.frozen _; have f41 : w4.frozen? ⟨w.heap.size + 1 + 1 + 1, 1, none⟩ = false := U4a.out.b4.frozen _; clear hw) | (go_at_call 52; refine (C52'.out w4 U4a.out).mono ?_; rintro e w5 ⟨rfl, hw⟩; have U5a := mkH (U4a.out.keep hw); have a5 := cell_keep a4 hw; have b5 := cell_keep b4 hw; have e50 : w5.cell? ⟨w.heap.size + 1 + 1 + 1, 0, none⟩ = some (.slice none 0 0) := U5a.out.b4.cell rfl; have e51 : w5.cell? ⟨w.heap.size + 1 + 1 + 1, 1, none⟩ = some (.int .i64 0) := U5a.out.b4.cell rfl; have f50 : w5.frozen? ⟨w.heap.size + 1 + 1 + 1, 0, none⟩ = false := U5a.out.b4.frozen _; have f51 : w5.frozen? ⟨w.heap.size + 1 + 1 + 1, 1, none⟩ = false := U5a.out.b4.frozen _; clear hw) | fail)
      have N4 : Blk ((w5.setCell ⟨w.heap.size + 1 + 1 + 1, 0, none⟩ (.slice none 0 0)).setCell ⟨w.heap.size + 1 + 1 + 1, 1, none⟩ (.int .i64 0)) (w.heap.size + 1 + 1 + 1) 24 #[.slice none 0 0, .int .i64 0] := set24 U5a.out.b4
      have LB : Below w.heap.size w ((w5.setCell ⟨w.heap.size + 1 + 1 + 1, 0, none⟩ (.slice none 0 0)).setCell ⟨w.heap.size + 1 + 1 + 1, 1, none⟩ (.int .i64 0)) := (U5a.out.bel.setCell (by show w.heap.size ≤ w.heap.size + 1 + 1 + 1; omega) _).setCell (by show w.heap.size ≤ w.heap.size + 1 + 1 + 1; omega) _
      generalize (w5.setCell ⟨w.heap.size + 1 + 1 + 1, 0, none⟩ (.slice none 0 0)).setCell ⟨w.heap.size + 1 + 1 + 1, 1, none⟩ (.int .i64 0) = w9 at *
      have l24 := ld24v N4
      exact bodyPost_ret (v := .tuple #[.agg #[.slice none 0 0, .int .i64 0], .int .i64 2]) (by simp [results, Try.results20, asAddr, l24]) rfl (by rw [hq.out]; exact AdP.no (by decide) LB)
  · have C17' := HC17
    unfold Hid at C17'
    rw [ti_f hr] at C17'
    replace C17' := mkH C17'
    have hq : Hid (addE (G.map Nr.d) now r.d = 180) := by unfold Hid addE; rw [ti_f hr]
    clear hr
    go_wp2_with (first | (go_at_call 17; refine (C17'.out _ U3.out.bel).mono ?_; rintro e w4 ⟨rfl, hw⟩; have U4a := mkH (U3.out.keep hw); have a4 := cell_keep a3 hw; have b4 := cell_keep b3 hw; have e40 : w4.cell? ⟨w.heap.size + 1 + 1 + 1, 0, none⟩ = some (.slice none 0 0) := U4a.out.b4.cell rfl; have e41 : w4.cell? ⟨w.heap.size + 1 + 1 + 1, 1, none⟩ = some (.int .i64 0) := U4a.out.b4.cell rfl; have f40 : w4.frozen? ⟨w.heap.size + 1 + 1 + 1, 0, none⟩ = false := U4a.out.b4.frozen _; have f41 : w4.frozen? ⟨w.heap.size + 1 + 1 + 1, 1, none⟩ = false := U4a.out.b4.frozen _; clear hw) | fail)
    have N4 : Blk ((w4.setCell ⟨w.heap.size + 1 + 1 + 1, 0, none⟩ (.slice none 0 0)).setCell ⟨w.heap.size + 1 + 1 + 1, 1, none⟩ (.int .i64 0)) (w.heap.size + 1 + 1 + 1) 24 #[.slice none 0 0, .int .i64 0] := set24 U4a.out.b4
    have LB : Below w.heap.size w ((w4.setCell ⟨w.heap.size + 1 + 1 + 1, 0, none⟩ (.slice none 0 0)).setCell ⟨w.heap.size + 1 + 1 + 1, 1, none⟩ (.int .i64 0)) := (U4a.out.bel.setCell (by show w.heap.size ≤ w.heap.size + 1 + 1 + 1; omega) _).setCell (by show w.heap.size ≤ w.heap.size + 1 + 1 + 1; omega) _
    generalize (w4.setCell ⟨w.heap.size + 1 + 1 + 1, 0, none⟩ (.slice none 0 0)).setCell ⟨w.heap.size + 1 + 1 + 1, 1, none⟩ (.int .i64 0) = w9 at *
    have l24 := ld24v N4
    exact bodyPost_ret (v := .tuple #[.agg #[.slice none 0 0, .int .i64 0], .int .i64 180]) (by simp [results, Try.results20, asAddr, l24]) rfl (by rw [hq.out]; exact AdP.no (by decide) LB)
end Go.Proofs.Ytaahklapoppgaaa

