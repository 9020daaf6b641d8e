/- The program's reached. -/
import Derived.Test.YtaahklapoppgaaaQm14
import Derived.Test.YtaahklapoppgaaaQm15
import Derived.Test.YtaahklapoppgaaaQm19
import Derived.Test.YtaahklapoppgaaaQm20
namespace Go.Proofs.Ytaahklapoppgaaa
open Go.RowKit

set_option maxRecDepth 8000
/-- what was asked on the way from i up to j -/
def RcI (D : List Nd) (i j : Nat) : Prop := ∃ a, way (pr D) i = a ++ way (pr D) j ∧ ∀ x ∈ a, (at' D (pr D x)).nxt = (x : Int)
theorem RcI.start (D : List Nd) (i : Nat) : RcI D i i := ⟨[], rfl, fun x hx => by cases hx⟩
theorem RcI.step {D : List Nd} {i j : Nat} (h : RcI D i j) (hp : Low (pr D) D.length) (hj : j < D.length) (h0 : 0 < j) (hx : (at' D (pr D j)).nxt = (j : Int)) : RcI D i (pr D j) := by
  obtain ⟨a, h1, h2⟩ := h
  refine ⟨a ++ [j], by rw [h1, way_step hp h0 hj, List.append_assoc]; rfl, fun x hx' => ?_⟩
  rcases List.mem_append.1 hx' with h | h
  · exact h2 x h
  · simp at h; subst h; exact hx
theorem RcI.done {D : List Nd} {i : Nat} (h : RcI D i 0) : Rch D i := by
  obtain ⟨a, h1, h2⟩ := h
  rw [way_zero, List.append_nil] at h1
  unfold Rch
  rw [h1]
  exact h2
theorem RcI.no {D : List Nd} {i j : Nat} (h : RcI D i j) (hp : Low (pr D) D.length) (hj : j < D.length) (h0 : 0 < j) (hx : (at' D (pr D j)).nxt ≠ (j : Int)) : ¬ Rch D i := fun hr => by
  obtain ⟨a, h1, h2⟩ := h
  refine hx (hr j ?_)
  rw [h1, way_step hp h0 hj]
  simp
theorem blk_cell0 {W : World} {B t : Nat} {v u : Value} (h : Blk W B t #[v, u]) : W.cell? ⟨B, 0, none⟩ = some v := h.cell rfl
/-- a change's parent, in memory -/
theorem par_at {D : List Nd} {G : List Nr} {j : Nat} {r : Nr} (hD : D = G.map Nr.d) (hh : Hangs D) (hr : G[j]? = some r) (h0 : 0 < j) : ∃ k : Nat, r.par = (k : Int) ∧ k = pr D j ∧ k < j := by
  subst hD
  have h1 : (G.map Nr.d)[j]? = some r.d := by rw [List.getElem?_map, hr]; rfl
  have h2 := (hh j r.d h0 h1).1
  have h3 : r.d.par = r.par := rfl
  rw [h3] at h2
  refine ⟨r.par.toNat, by omega, ?_, by omega⟩
  unfold pr
  rw [at'_eq h1, h3]
theorem map_at {G : List Nr} {j : Nat} {r : Nr} (hr : G[j]? = some r) : at' (G.map Nr.d) j = r.d := at'_eq (by rw [List.getElem?_map, hr]; rfl)
set_option maxHeartbeats 8000000 in
set_option linter.unusedSimpArgs false in
theorem reached_any (ao : Option Addr) (n c k0 : Nat) (G : List Nr) (w : World) (HG : Hid (Grz w ao G)) (hn : G.length = n) (hk : k0 < n) (HH : Hid (Hangs (G.map Nr.d))) : Calls Try.prog 50 #[.agg #[.slice ao n c, .int .i64 (k0 : Int)]] w fun e w' => e = .returned (.bool (tb (Rch (G.map Nr.d) k0))) ∧ Below w.heap.size w w' := by
  have HN := mkH hn
  obtain ⟨g, o, rfl, hat0⟩ := HG.out.base (by omega)
  have HA := mkH hat0
  have HP : Hid (Low (pr (G.map Nr.d)) (G.map Nr.d).length) := HH.out.low
  clear hn hat0
  generalize hW1 : w.alloc (.cells #[.slice (some ⟨g, o, none⟩) n c, .int .i64 (k0 : Int)] 24) = W1
  have L1 : Hid (Below w.heap.size w W1) := by subst hW1; exact bAlloc (Below.refl _ _) _
  have K1 : Hid (Blk W1 w.heap.size 24 #[.slice (some ⟨g, o, none⟩) n c, .int .i64 (k0 : Int)]) := by subst hW1; exact Blk.new w 24 _
  have k1 : W1.cell? ⟨w.heap.size, 1, none⟩ = some (.int .i64 (k0 : Int)) := K1.out.cell rfl
  go_enter Try.func50, Try.ntmps50
  go_wp2_with fail
  clear hW1 k1
  go_loopg [3] k0 (fun m x3 wx => x3 = .int .i64 (m : Int) ∧ m < n ∧ Hid (RcI (G.map Nr.d) k0 m) ∧ Hid (Below w.heap.size w wx) ∧ Hid (Blk wx w.heap.size 24 #[.slice (some ⟨g, o, none⟩) n c, .int .i64 (k0 : Int)]))
  case atStart => exact ⟨rfl, hk, RcI.start _ _, L1.out, K1.out⟩
  case round =>
    obtain ⟨rfl, hgn, HF, KB, KK⟩ := hrel
    by_cases hz : gk = 0
    · subst hz
      go_wp2
      go_ret
      exact ⟨by rw [tb_t HF.out.done]; rfl, KB.out⟩
    · have hz1 : ((gk : Int) == 0) = false := by simp; omega
      have hz2 : ((gk : Int) != 0) = true := by simp [bne, hz1]
      have hi' : (gk : Int) < (n : Int) := by omega
      have hi0 : (0 : Int) ≤ (gk : Int) := by omega
      obtain ⟨r, hr⟩ : ∃ r, G[gk]? = some r := ⟨_, List.getElem?_eq_getElem (by have := HN.out; omega)⟩
      obtain ⟨k, hk1, hk2, hk3⟩ := par_at rfl HH.out hr (by omega)
      obtain ⟨s, hs⟩ : ∃ r, G[k]? = some r := ⟨_, List.getElem?_eq_getElem (by have := HN.out; omega)⟩
      have hkn : (k : Int) < (n : Int) := by omega
      have hkn0 : (0 : Int) ≤ (k : Int) := by omega
      have HX : Hid ((at' (G.map Nr.d) (pr (G.map Nr.d) gk)).nxt = s.nxt) := by unfold Hid; rw [← hk2, map_at hs]; rfl
      have U0 := (HA.out gk r hr).c0
      have U1 := (HA.out k s hs).c1
      rw [hk1] at U0
      obtain ⟨nx, hnx⟩ : ∃ x, s.nxt = x := ⟨_, rfl⟩
      rw [hnx] at U1 HX
      have HK2 := mkH hk2
      have HLN : Hid (gk < (G.map Nr.d).length) := by unfold Hid; rw [List.length_map, HN.out]; omega
      have HG0 : Hid (0 < gk) := by unfold Hid; omega
      have T0 : Hid (wr.drew.cell? ⟨g, o + gk * 58, none⟩ = some (.int .i64 (k : Int))) := cell_keep U0 KB.out.drew
      have T1 : Hid (wr.drew.cell? ⟨g, o + k * 58 + 1, none⟩ = some (.int .i64 nx)) := cell_keep U1 KB.out.drew
      have KD : Hid (Blk wr.drew w.heap.size 24 #[.slice (some ⟨g, o, none⟩) n c, .int .i64 (k0 : Int)]) := KK.out
      have LD : Hid (Below w.heap.size w wr.drew) := KB.out.drew
      clear hnx hk1 hk2 hr hs U0 U1 hz
      go_upto_region 4 with fail
      by_cases he : nx = (gk : Int)
      · have he1 : (nx == (gk : Int)) = true := by simpa using he
        have he2 : (nx != (gk : Int)) = false := by simp [bne, he1]
        have HR := mkH (HF.out.step HP.out HLN.out HG0.out (HX.out.trans he))
        clear he
        refine wp_region_held (S := fun w' => Blk w' w.heap.size 24 #[.slice (some ⟨g, o, none⟩) n c, .int .i64 (k0 : Int)] ∧ w'.cell? ⟨g, o + gk * 58, none⟩ = some (.int .i64 (k : Int)) ∧ w'.cell? ⟨g, o + k * 58 + 1, none⟩ = some (.int .i64 nx)) (by kernel_rfl) ?_
        change wpAnyH _ _ _ _ _ _ _ _ (World.drew _)
        generalize wr.drew = V3 at *
        refine tk 0 (.pointer (some ⟨w.heap.size, 0, none⟩)) ⟨KD.out, T0.out, T1.out⟩ ?_
        refine ta 1 (.slice (some ⟨g, o, none⟩) n c) rfl (Or.inl ⟨by rfl, fun w9 h9 => by obtain ⟨h0, h1, h2⟩ := h9; have h3 := blk_cell0 h0; go_simp⟩) ⟨KD.out, T0.out, T1.out⟩ ?_
        refine tk 2 (.pointer (some ⟨w.heap.size, 0, none⟩)) ⟨KD.out, T0.out, T1.out⟩ ?_
        refine ta 3 (.slice (some ⟨g, o, none⟩) n c) rfl (Or.inl ⟨by rfl, fun w9 h9 => by obtain ⟨h0, h1, h2⟩ := h9; have h3 := blk_cell0 h0; go_simp⟩) ⟨KD.out, T0.out, T1.out⟩ ?_
        try simp only [Act.put, jj1, jj2, jj3, jj4, jj5, jj6]
        refine tk 4 (.int .i64 (gk : Int)) ⟨KD.out, T0.out, T1.out⟩ ?_
        refine tk 5 (.pointer (some ⟨g, o + gk * 58, none⟩)) ⟨KD.out, T0.out, T1.out⟩ ?_
        refine tk 6 (.pointer (some ⟨g, o + gk * 58, none⟩)) ⟨KD.out, T0.out, T1.out⟩ ?_
        refine ta 7 (.int .i64 (k : Int)) rfl (Or.inl ⟨by rfl, fun w9 h9 => by obtain ⟨h0, h1, h2⟩ := h9; have h3 := blk_cell0 h0; go_simp⟩) ⟨KD.out, T0.out, T1.out⟩ ?_
        try simp only [Act.put, jj1, jj2, jj3, jj4, jj5, jj6]
        refine tk 8 (.pointer (some ⟨g, o + k * 58, none⟩)) ⟨KD.out, T0.out, T1.out⟩ ?_
        refine tk 9 (.pointer (some ⟨g, o + k * 58 + 1, none⟩)) ⟨KD.out, T0.out, T1.out⟩ ?_
        refine ta 10 (.int .i64 nx) rfl (Or.inl ⟨by rfl, fun w9 h9 => by obtain ⟨h0, h1, h2⟩ := h9; have h3 := blk_cell0 h0; go_simp⟩) ⟨KD.out, T0.out, T1.out⟩ ?_
        refine tk 11 (.int .i64 (gk : Int)) ⟨KD.out, T0.out, T1.out⟩ ?_
        try simp only [Act.put, jj1, jj2, jj3, jj4, jj5, jj6]
        refine tk 12 (.bool false) ⟨KD.out, T0.out, T1.out⟩ ?_
        try simp only [Act.put, jj1, jj2, jj3, jj4, jj5, jj6]
        refine wpAnyH_done (by kernel_rfl) ?_ _
        have t0 := T0.out
        have t3 := blk_cell0 KD.out
        clear HP HX
        go_wp2
        go_roundg k
        case measure => omega
        case rel => exact ⟨rfl, by omega, by rw [HK2.out]; exact HR.out, LD.out, KD.out⟩
      · have he1 : (nx == (gk : Int)) = false := by simpa using he
        have he2 : (nx != (gk : Int)) = true := by simp [bne, he1]
        have HR := mkH (HF.out.no HP.out HLN.out HG0.out (by rw [HX.out]; exact he))
        clear he
        refine wp_region_held (S := fun w' => Blk w' w.heap.size 24 #[.slice (some ⟨g, o, none⟩) n c, .int .i64 (k0 : Int)] ∧ w'.cell? ⟨g, o + gk * 58, none⟩ = some (.int .i64 (k : Int)) ∧ w'.cell? ⟨g, o + k * 58 + 1, none⟩ = some (.int .i64 nx)) (by kernel_rfl) ?_
        change wpAnyH _ _ _ _ _ _ _ _ (World.drew _)
        generalize wr.drew = V3 at *
        refine tk 0 (.pointer (some ⟨w.heap.size, 0, none⟩)) ⟨KD.out, T0.out, T1.out⟩ ?_
        refine ta 1 (.slice (some ⟨g, o, none⟩) n c) rfl (Or.inl ⟨by rfl, fun w9 h9 => by obtain ⟨h0, h1, h2⟩ := h9; have h3 := blk_cell0 h0; go_simp⟩) ⟨KD.out, T0.out, T1.out⟩ ?_
        refine tk 2 (.pointer (some ⟨w.heap.size, 0, none⟩)) ⟨KD.out, T0.out, T1.out⟩ ?_
        refine ta 3 (.slice (some ⟨g, o, none⟩) n c) rfl (Or.inl ⟨by rfl, fun w9 h9 => by obtain ⟨h0, h1, h2⟩ := h9; have h3 := blk_cell0 h0; go_simp⟩) ⟨KD.out, T0.out, T1.out⟩ ?_
        try simp only [Act.put, jj1, jj2, jj3, jj4, jj5, jj6]
        refine tk 4 (.int .i64 (gk : Int)) ⟨KD.out, T0.out, T1.out⟩ ?_
        refine tk 5 (.pointer (some ⟨g, o + gk * 58, none⟩)) ⟨KD.out, T0.out, T1.out⟩ ?_
        refine tk 6 (.pointer (some ⟨g, o + gk * 58, none⟩)) ⟨KD.out, T0.out, T1.out⟩ ?_
        refine ta 7 (.int .i64 (k : Int)) rfl (Or.inl ⟨by rfl, fun w9 h9 => by obtain ⟨h0, h1, h2⟩ := h9; have h3 := blk_cell0 h0; go_simp⟩) ⟨KD.out, T0.out, T1.out⟩ ?_
        try simp only [Act.put, jj1, jj2, jj3, jj4, jj5, jj6]
        refine tk 8 (.pointer (some ⟨g, o + k * 58, none⟩)) ⟨KD.out, T0.out, T1.out⟩ ?_
        refine tk 9 (.pointer (some ⟨g, o + k * 58 + 1, none⟩)) ⟨KD.out, T0.out, T1.out⟩ ?_
        refine ta 10 (.int .i64 nx) rfl (Or.inl ⟨by rfl, fun w9 h9 => by obtain ⟨h0, h1, h2⟩ := h9; have h3 := blk_cell0 h0; go_simp⟩) ⟨KD.out, T0.out, T1.out⟩ ?_
        refine tk 11 (.int .i64 (gk : Int)) ⟨KD.out, T0.out, T1.out⟩ ?_
        try simp only [Act.put, jj1, jj2, jj3, jj4, jj5, jj6]
        refine tk 12 (.bool true) ⟨KD.out, T0.out, T1.out⟩ ?_
        try simp only [Act.put, jj1, jj2, jj3, jj4, jj5, jj6]
        refine wpAnyH_done (by kernel_rfl) ?_ _
        clear HP HX
        go_wp2
        go_ret
        exact ⟨by rw [tb_f HR.out]; rfl, LD.out⟩
end Go.Proofs.Ytaahklapoppgaaa

/- The program's Check and start. -/
namespace Go.Proofs.Ytaahklapoppgaaa
open Go.RowKit

set_option maxRecDepth 8000
theorem tb_true (p : Prop) : tb p = true ↔ p := ⟨fun h => (by by_cases hp : p; exact hp; rw [tb_f hp] at h; cases h), tb_t⟩
theorem right_dec (G : List Nr) (now : Int) : tb (Right (G.map Nr.d) now) = (decide (G.length ≤ 4097 ∧ 0 ≤ now ∧ now < (G.length : Int)) && tb (Zero (at' (G.map Nr.d) 0)) && tb (Hangs (G.map Nr.d)) && tb (Leads (G.map Nr.d)) && tb (Rch (G.map Nr.d) now.toNat)) := by
  refine tb_eq ?_
  simp only [Bool.and_eq_true, tb_true, decide_eq_true_iff]
  constructor
  · rintro ⟨⟨⟨⟨a, b⟩, c⟩, d⟩, e⟩; exact ⟨(sized_iff G now).2 a, b, c, d, e⟩
  · rintro ⟨a, b, c, d, e⟩; exact ⟨⟨⟨⟨(sized_iff G now).1 a, b⟩, c⟩, d⟩, e⟩
set_option maxHeartbeats 8000000 in
theorem check_any (ao : Option Addr) (n c : Nat) (now : Int) (G : List Nr) (w : World) (HG : Hid (Grz w ao G)) (hn : G.length = n) (hc : n ≤ c) : Calls Try.prog 17 #[.agg #[.slice ao n c, .int .i64 now]] w fun e w' => e = .returned (.int .i64 (ti (Right (G.map Nr.d) now) 0 180)) ∧ Below w.heap.size w w' := by
  unfold ti
  rw [right_dec, hn]
  generalize hW1 : w.alloc (.cells #[.slice ao n c, .int .i64 now] 24) = W1
  have L1 : Hid (Below w.heap.size w W1) := by subst hW1; exact bAlloc (Below.refl _ _) _
  have K1 : Hid (Blk W1 w.heap.size 24 #[.slice ao n c, .int .i64 now]) := by subst hW1; exact Blk.new w 24 _
  have a1 : W1.cell? ⟨w.heap.size, 0, none⟩ = some (.slice ao n c) := K1.out.cell rfl
  have b1 : W1.cell? ⟨w.heap.size, 1, none⟩ = some (.int .i64 now) := K1.out.cell rfl
  clear K1
  have C1 := fun W => sized_any ao n c now W
  by_cases hs : n ≤ 4097 ∧ 0 ≤ now ∧ now < (n : Int)
  · rw [decide_eq_true hs] at C1 ⊢
    obtain ⟨k, rfl⟩ : ∃ k : Nat, now = (k : Int) := ⟨now.toNat, by omega⟩
    have C2 := fun W (hW : Below w.heap.size w W) => begins_any ao n c G W (HG.out.keep hW) hn (by omega)
    have C3 := fun W (hW : Below w.heap.size w W) => hangs_any ao n c G W (HG.out.keep hW) hn (by omega) hc (by omega)
    have C4 := fun W (hW : Below w.heap.size w W) => leads_any ao n c G W (HG.out.keep hW) hn (by omega) (by omega)
    have C5 := fun W (hW : Below w.heap.size w W) (hh : Hangs (G.map Nr.d)) => reached_any ao n c k G W (HG.out.keep hW) hn (by omega) hh
    rw [Int.toNat_natCast]
    generalize tb (Rch (G.map Nr.d) k) = q5 at *
    generalize tb (Leads (G.map Nr.d)) = q4 at *
    generalize tb (Zero (at' (G.map Nr.d) 0)) = q2 at *
    have H1 := mkH C1
    have H2 := mkH C2
    have H3 := mkH C3
    have H4 := mkH C4
    clear C1 C2 C3 C4 hs hn
    cases q2 with
    | false =>
      go_enter Try.func17, Try.ntmps17
      go_wp2_with (first | (go_at_call 46; refine (H1.out _).mono ?_; rintro e w2 ⟨rfl, hw⟩; have L2 := mkH (bT L1.out hw); have a2 := cell_keep a1 hw; have b2 := cell_keep b1 hw; clear hw) | (go_at_call 47; refine (H2.out w2 L2.out).mono ?_; rintro e w3 ⟨rfl, hw⟩; have L3 := mkH (bT L2.out hw); have a3 := cell_keep a2 hw; have b3 := cell_keep b2 hw; clear hw))
      go_ret
      exact ⟨by simp, L3.out⟩
    | true =>
      by_cases hh : Hangs (G.map Nr.d)
      · have HH := mkH hh
        have H5 := mkH (fun W hW => C5 W hW hh)
        rw [tb_t hh] at H3 ⊢
        clear hh C5
        cases q4 with
        | false =>
          go_enter Try.func17, Try.ntmps17
          go_wp2_with (first | (go_at_call 46; refine (H1.out _).mono ?_; rintro e w2 ⟨rfl, hw⟩; have L2 := mkH (bT L1.out hw); have a2 := cell_keep a1 hw; have b2 := cell_keep b1 hw; clear hw) | (go_at_call 47; refine (H2.out w2 L2.out).mono ?_; rintro e w3 ⟨rfl, hw⟩; have L3 := mkH (bT L2.out hw); have a3 := cell_keep a2 hw; have b3 := cell_keep b2 hw; clear hw) | (go_at_call 48; refine (H3.out w3 L3.out).mono ?_; rintro e w4 ⟨rfl, hw⟩; have L4 := mkH (bT L3.out hw); have a4 := cell_keep a3 hw; have b4 := cell_keep b3 hw; clear hw) | (go_at_call 49; refine (H4.out w4 L4.out).mono ?_; rintro e w5 ⟨rfl, hw⟩; have L5 := mkH (bT L4.out hw); have a5 := cell_keep a4 hw; have b5 := cell_keep b4 hw; clear hw))
          go_ret
          exact ⟨by simp, L5.out⟩
        | true =>
          cases q5 with
          | false =>
            go_enter Try.func17, Try.ntmps17
            go_wp2_with (first | (go_at_call 46; refine (H1.out _).mono ?_; rintro e w2 ⟨rfl, hw⟩; have L2 := mkH (bT L1.out hw); have a2 := cell_keep a1 hw; have b2 := cell_keep b1 hw; clear hw) | (go_at_call 47; refine (H2.out w2 L2.out).mono ?_; rintro e w3 ⟨rfl, hw⟩; have L3 := mkH (bT L2.out hw); have a3 := cell_keep a2 hw; have b3 := cell_keep b2 hw; clear hw) | (go_at_call 48; refine (H3.out w3 L3.out).mono ?_; rintro e w4 ⟨rfl, hw⟩; have L4 := mkH (bT L3.out hw); have a4 := cell_keep a3 hw; have b4 := cell_keep b3 hw; clear hw) | (go_at_call 49; refine (H4.out w4 L4.out).mono ?_; rintro e w5 ⟨rfl, hw⟩; have L5 := mkH (bT L4.out hw); have a5 := cell_keep a4 hw; have b5 := cell_keep b4 hw; clear hw) | (go_at_call 50; refine (H5.out w5 L5.out).mono ?_; rintro e w6 ⟨rfl, hw⟩; have L6 := mkH (bT L5.out hw); clear hw))
            go_ret
            exact ⟨by simp, L6.out⟩
          | true =>
            go_enter Try.func17, Try.ntmps17
            go_wp2_with (first | (go_at_call 46; refine (H1.out _).mono ?_; rintro e w2 ⟨rfl, hw⟩; have L2 := mkH (bT L1.out hw); have a2 := cell_keep a1 hw; have b2 := cell_keep b1 hw; clear hw) | (go_at_call 47; refine (H2.out w2 L2.out).mono ?_; rintro e w3 ⟨rfl, hw⟩; have L3 := mkH (bT L2.out hw); have a3 := cell_keep a2 hw; have b3 := cell_keep b2 hw; clear hw) | (go_at_call 48; refine (H3.out w3 L3.out).mono ?_; rintro e w4 ⟨rfl, hw⟩; have L4 := mkH (bT L3.out hw); have a4 := cell_keep a3 hw; have b4 := cell_keep b3 hw; clear hw) | (go_at_call 49; refine (H4.out w4 L4.out).mono ?_; rintro e w5 ⟨rfl, hw⟩; have L5 := mkH (bT L4.out hw); have a5 := cell_keep a4 hw; have b5 := cell_keep b4 hw; clear hw) | (go_at_call 50; refine (H5.out w5 L5.out).mono ?_; rintro e w6 ⟨rfl, hw⟩; have L6 := mkH (bT L5.out hw); clear hw))
            go_ret
            exact ⟨by simp, L6.out⟩
      · rw [tb_f hh] at H3 ⊢
        clear hh C5
        go_enter Try.func17, Try.ntmps17
        go_wp2_with (first | (go_at_call 46; refine (H1.out _).mono ?_; rintro e w2 ⟨rfl, hw⟩; have L2 := mkH (bT L1.out hw); have a2 := cell_keep a1 hw; have b2 := cell_keep b1 hw; clear hw) | (go_at_call 47; refine (H2.out w2 L2.out).mono ?_; rintro e w3 ⟨rfl, hw⟩; have L3 := mkH (bT L2.out hw); have a3 := cell_keep a2 hw; have b3 := cell_keep b2 hw; clear hw) | (go_at_call 48; refine (H3.out w3 L3.out).mono ?_; rintro e w4 ⟨rfl, hw⟩; have L4 := mkH (bT L3.out hw); clear hw))
        go_ret
        exact ⟨by simp, L4.out⟩
  · rw [decide_eq_false hs] at C1 ⊢
    have H1 := mkH C1
    clear C1 hs hn
    go_enter Try.func17, Try.ntmps17
    go_wp2_with (go_at_call 46; refine (H1.out _).mono ?_; rintro e w2 ⟨rfl, hw⟩; have L2 := mkH (bT L1.out hw); clear hw)
    go_ret
    exact ⟨by simp, L2.out⟩
/-- what Undo, Redo and Go ask first -/
noncomputable def stE (D : List Nd) (now : Int) (m : List Int) : Int := ti (Right D now) (ti (MOk m) 0 2) 180
set_option maxHeartbeats 8000000 in
theorem start_any (ao : Option Addr) (n c : Nat) (now : Int) (G : List Nr) (m : List Int) (w : World) (HG : Hid (Grz w ao G)) (hn : G.length = n) (hc : n ≤ c) (hm : Mw m) : Calls Try.prog 57 #[.agg #[.slice ao n c, .int .i64 now], .agg (mk m)] w fun e w' => e = .returned (.int .i64 (stE (G.map Nr.d) now m)) ∧ Below w.heap.size w w' := by
  unfold stE
  generalize hW1 : (w.alloc (.cells #[.slice ao n c, .int .i64 now] 24)).alloc (.cells (mk m) 41) = W1
  have L1 : Hid (Below w.heap.size w W1) := by subst hW1; exact bAlloc (bAlloc (Below.refl _ _) _) _
  have K1 : Hid (Blk W1 w.heap.size 24 #[.slice ao n c, .int .i64 now]) := by subst hW1; exact (Blk.new w 24 _).keep (bAlloc (Below.refl _ _) _)
  have K2 : Hid (Blk W1 (w.heap.size + 1) 41 (mk m)) := by
    subst hW1
    have := Blk.new (w.alloc (.cells #[.slice ao n c, .int .i64 now] 24)) 41 (mk m)
    rwa [World.size_alloc] at this
  have a1 : W1.cell? ⟨w.heap.size, 0, none⟩ = some (.slice ao n c) := K1.out.cell rfl
  have b1 : W1.cell? ⟨w.heap.size, 1, none⟩ = some (.int .i64 now) := K1.out.cell rfl
  have C1 := mkH (check_any ao n c now G W1 (HG.out.keep L1.out) hn hc)
  have C2 := mkH (fun W => marked_any m W hm)
  have hl := hm.len
  clear K1 hn
  by_cases hr : Right (G.map Nr.d) now
  · rw [ti_t hr] at C1 ⊢
    clear hr
    by_cases ho : MOk m
    · rw [tb_t ho] at C2
      rw [ti_t ho]
      clear ho
      go_enter Try.func57, Try.ntmps57
      go_wp2_with (first | (go_at_call 17; refine C1.out.mono ?_; rintro e w2 ⟨rfl, hw⟩; have L2 := mkH (bT L1.out hw); have M2 := mkH (K2.out.keep hw); clear hw) | refine wl_ld41 (B := w.heap.size + 1) (o := 0) (.tmp 3) rfl rfl rfl hl (range_blk M2.out) ?_ | (go_at_call 70; refine (C2.out _).mono ?_; rintro e w3 ⟨rfl, hw⟩; have L3 := mkH (bT L2.out hw); clear hw))
      go_ret
      exact ⟨rfl, L3.out⟩
    · rw [tb_f ho] at C2
      rw [ti_f ho]
      clear ho
      go_enter Try.func57, Try.ntmps57
      go_wp2_with (first | (go_at_call 17; refine C1.out.mono ?_; rintro e w2 ⟨rfl, hw⟩; have L2 := mkH (bT L1.out hw); have M2 := mkH (K2.out.keep hw); clear hw) | refine wl_ld41 (B := w.heap.size + 1) (o := 0) (.tmp 3) rfl rfl rfl hl (range_blk M2.out) ?_ | (go_at_call 70; refine (C2.out _).mono ?_; rintro e w3 ⟨rfl, hw⟩; have L3 := mkH (bT L2.out hw); clear hw))
      go_ret
      exact ⟨rfl, L3.out⟩
  · rw [ti_f hr] at C1 ⊢
    clear hr
    go_enter Try.func57, Try.ntmps57
    go_wp2_with (go_at_call 17; refine C1.out.mono ?_; rintro e w2 ⟨rfl, hw⟩; have L2 := mkH (bT L1.out hw); clear hw)
    go_ret
    exact ⟨rfl, L2.out⟩
end Go.Proofs.Ytaahklapoppgaaa

