/- The reference's cross. -/
import Derived.Test.YtaahklapoppgaaaQc00
import Derived.Test.YtaahklapoppgaaaQn00
import Derived.Test.YtaahklapoppgaaaQm06
import Derived.Test.YtaahklapoppgaaaQm11
import Derived.Test.YtaahklapoppgaaaQm31
import Derived.Test.YtaahklapoppgaaaQt03
namespace Go.Proofs.Ytaahklapoppgaaa
open Go.RowKit

set_option maxRecDepth 8000
/-- the boxes of a call of cross -/
structure Lc (W : World) (b B n k : Nat) (now : Int) (v : Value) (cur : Int) (m Z : List Int) : Prop where
  k0 : Blk W b 24 #[.slice (some ⟨B, 0, none⟩) n k, .int .i64 now]
  k1 : Blk W (b + 1) 50 (cxa v cur m)
  k2 : Blk W (b + 1 + 1) 24 #[.slice none 0 0, .int .i64 0]
  k3 : Blk W (b + 1 + 1 + 1) 50 (cxa (.slice none 0 0) 0 Z)
theorem Lc.keep {W W' : World} {b B n k : Nat} {now : Int} {v : Value} {cur : Int} {m Z : List Int} (h : Lc W b B n k now v cur m Z) (hb : Below W.heap.size W W') : Lc W' b B n k now v cur m Z := ⟨h.k0.keep hb, h.k1.keep hb, h.k2.keep hb, h.k3.keep hb⟩
theorem Lc.oth {W W' : World} {b B n k : Nat} {now : Int} {v : Value} {cur : Int} {m Z : List Int} {g : Option Nat} (h : Lc W b B n k now v cur m Z) (hg : W.grownBy W' g) (hn : ∀ j, g = some j → j < b ∨ b + 1 + 1 + 1 < j) : Lc W' b B n k now v cur m Z := by
  have q : ∀ j, b ≤ j → j ≤ b + 1 + 1 + 1 → some j ≠ g := fun j h1 h2 e => by have := hn j e.symm; omega
  exact ⟨h.k0.grown hg (q _ (by omega) (by omega)), h.k1.grown hg (q _ (by omega) (by omega)), h.k2.grown hg (q _ (by omega) (by omega)), h.k3.grown hg (q _ (by omega) (by omega))⟩
theorem Lc.now' {W : World} {b B n k : Nat} {now : Int} {v : Value} {cur : Int} {m Z : List Int} (h : Lc W b B n k now v cur m Z) (x : Int) : Lc (W.setCell ⟨b, 1, none⟩ (.int .i64 x)) b B n k x v cur m Z := ⟨h.k0.set (j := 1) (.int .i64 x), h.k1.off (by omega) _, h.k2.off (by omega) _, h.k3.off (by omega) _⟩
theorem Lc.cur' {W : World} {b B n k : Nat} {now : Int} {v : Value} {cur : Int} {m Z : List Int} (h : Lc W b B n k now v cur m Z) (x : Int) : Lc (W.setCell ⟨b + 1, 1, none⟩ (.int .i64 x)) b B n k now v x m Z := by
  refine ⟨h.k0.off (by omega) _, ?_, h.k2.off (by omega) _, h.k3.off (by omega) _⟩
  have := h.k1.set (j := 1) (.int .i64 x)
  have e : (cxa v cur m).setIfInBounds 1 (.int .i64 x) = cxa v x m := by unfold cxa cx; rw [List.setIfInBounds_toArray]; rfl
  rwa [e] at this
theorem Lc.eds' {W : World} {b B n k : Nat} {now : Int} {v : Value} {cur : Int} {m Z : List Int} (h : Lc W b B n k now v cur m Z) (x : Value) : Lc (W.setCell ⟨b + 1, 0, none⟩ x) b B n k now x cur m Z := by
  refine ⟨h.k0.off (by omega) _, ?_, h.k2.off (by omega) _, h.k3.off (by omega) _⟩
  have := h.k1.set (j := 0) x
  have e : (cxa v cur m).setIfInBounds 0 x = cxa x cur m := by unfold cxa cx; rw [List.setIfInBounds_toArray]; rfl
  rwa [e] at this
theorem Lc.mrk {W : World} {b B n k : Nat} {now : Int} {v : Value} {cur : Int} {m m' Z : List Int} (h : Lc W b B n k now v cur m Z) (hl : m.length = m'.length) : Lc (W.setCells (b + 1) 2 (ml m')) b B n k now v cur m' Z := by
  refine ⟨blk_setCells_off (by omega) _ _ h.k0, ?_, blk_setCells_off (by omega) _ _ h.k2, blk_setCells_off (by omega) _ _ h.k3⟩
  have := blk_setCells (ml m') [v, .int .i64 cur] (ml m) [] (by rw [ml_len, ml_len, hl]) (by rw [List.append_nil]; exact h.k1)
  rw [List.append_nil] at this
  exact this
theorem lc_new (w : World) (B n k : Nat) (now : Int) (v : Value) (cur : Int) (m Z : List Int) : Lc ((((w.alloc (.cells #[.slice (some ⟨B, 0, none⟩) n k, .int .i64 now] 24)).alloc (.cells (cxa v cur m) 50)).alloc (.cells #[.slice none 0 0, .int .i64 0] 24)).alloc (.cells (cxa (.slice none 0 0) 0 Z) 50)) w.heap.size B n k now v cur m Z := by
  have e1 := Blk.new w 24 #[.slice (some ⟨B, 0, none⟩) n k, .int .i64 now]
  have e2 := Blk.new (w.alloc (.cells #[.slice (some ⟨B, 0, none⟩) n k, .int .i64 now] 24)) 50 (cxa v cur m)
  have e3 := Blk.new ((w.alloc (.cells #[.slice (some ⟨B, 0, none⟩) n k, .int .i64 now] 24)).alloc (.cells (cxa v cur m) 50)) 24 #[.slice none 0 0, .int .i64 0]
  have e4 := Blk.new (((w.alloc (.cells #[.slice (some ⟨B, 0, none⟩) n k, .int .i64 now] 24)).alloc (.cells (cxa v cur m) 50)).alloc (.cells #[.slice none 0 0, .int .i64 0] 24)) 50 (cxa (.slice none 0 0) 0 Z)
  simp only [World.size_alloc] at e2 e3 e4
  have k : ∀ {W : World} {B e : Nat} {cs : Array Value} (o : Obj), Blk W B e cs → Blk (W.alloc o) B e cs := fun o h => h.keep (bAlloc (Below.refl _ _) _)
  exact ⟨k _ (k _ (k _ e1)), k _ (k _ e2), k _ e3, e4⟩
theorem Hst.was {lo hi B j : Nat} {W : World} {H : List Nr} {X : List Value} {S : List (Nat × Nat)} {r : Nr} {m : List Int} (h : Hst lo hi W B H X S) (hs : H[j]? = some r) (hm : Mw m) : Hst lo hi (W.setCells B (j * 58 + 4) (ml m)) B (H.set j { r with was := m }) X S := by
  have hg : W.grownBy (W.setCells B (j * 58 + 4) (ml m)) (some B) := grown_setCells _ _ _
  have hz := h.gow.nz hs
  exact ⟨h.row.put (r' := { r with was := m }) (a := r.hd) (old := ml r.was) (vs := ml m) (b := ml r.made) h.gow.ok hs rfl rfl (by rw [ml_len, ml_len, hz.ww.len, hm.len]), (h.gow.at hg).set hs ⟨rfl, rfl, rfl, rfl⟩ hm hz.wm, h.l0, h.h0, Nat.le_trans h.top hg.size⟩
theorem Hst.made {lo hi B j : Nat} {W : World} {H : List Nr} {X : List Value} {S : List (Nat × Nat)} {r : Nr} {m : List Int} (h : Hst lo hi W B H X S) (hs : H[j]? = some r) (hm : Mw m) : Hst lo hi (W.setCells B (j * 58 + 31) (ml m)) B (H.set j { r with made := m }) X S := by
  have hg : W.grownBy (W.setCells B (j * 58 + 31) (ml m)) (some B) := grown_setCells _ _ _
  have hz := h.gow.nz hs
  have e : (r.hd ++ ml r.was).length = 31 := by rw [List.length_append, ml_len, hz.ww.len]; rfl
  have h1 := h.row.put (r' := { r with made := m }) (a := r.hd ++ ml r.was) (old := ml r.made) (vs := ml m) (b := []) h.gow.ok hs (by rw [List.append_nil]; rfl) (by rw [List.append_nil]; rfl) (by rw [ml_len, ml_len, hz.wm.len, hm.len])
  rw [e] at h1
  exact ⟨h1, (h.gow.at hg).set hs ⟨rfl, rfl, rfl, rfl⟩ hz.ww hm, h.l0, h.h0, Nat.le_trans h.top hg.size⟩
theorem Hst.there1 {lo hi B j : Nat} {W : World} {H : List Nr} {X : List Value} {S : List (Nat × Nat)} {r : Nr} (h : Hst lo hi W B H X S) (hs : H[j]? = some r) : W.there B (j * 58 + 4) 27 ∧ W.there B (j * 58 + 31) 27 := by
  have hz := h.gow.nz hs
  have e : (r.hd ++ ml r.was).length = 31 := by rw [List.length_append, ml_len, hz.ww.len]; rfl
  have h1 := h.row.there (a := r.hd) (old := ml r.was) (b := ml r.made) h.gow.ok hs rfl
  have h2 := h.row.there (a := r.hd ++ ml r.was) (old := ml r.made) (b := []) h.gow.ok hs (by rw [List.append_nil]; rfl)
  rw [ml_len, hz.ww.len] at h1
  rw [ml_len, hz.wm.len, e] at h2
  exact ⟨h1, h2⟩
theorem wr_of {W W' : World} {B e : Nat} {cs : Array Value} (h : Blk W B e cs) (hg : W.grownBy W' (some B)) : ∃ g cs, W.heap[g]? = some (.cells cs e (0, 0)) ∧ W.grownBy W' (some g) := ⟨B, cs, h, hg⟩
theorem ls_wide {lo hi hi' : Nat} {W : World} {v : Value} {F : List Er} (h : Ls lo hi W v F) (hh : hi ≤ hi') : Ls lo hi' W v F := ⟨⟨h.rs.own, fun i r hi g hg => by have := h.rs.up i r hi g hg; omega, h.rs.far⟩, h.bnd⟩
theorem Frm.step {p B : Nat} {v : Value} {w W W' : World} {g : Option Nat} (h : Frm p B v w W) (hg : W.grownBy W' g) (hs : w.heap.size ≤ W.heap.size) (hn : ∀ j, g = some j → j = p ∨ j = B ∨ v.ownBlock = some j ∨ w.heap.size ≤ j) : Frm p B v w W' := fun j hj h1 h2 h3 => by
  rw [hg.block j (by omega) (fun e => by rcases hn j e.symm with h | h | h | h <;> first | (exact h1 h) | (exact h2 h) | (exact h3 h) | omega)]
  exact h j hj h1 h2 h3
theorem Frm.low {p B : Nat} {v : Value} {w W W' : World} (h : Frm p B v w W) (hb : Below W.heap.size W W') (hs : w.heap.size ≤ W.heap.size) : Frm p B v w W' := fun j hj h1 h2 h3 => by
  rw [hb.block j (by omega)]
  exact h j hj h1 h2 h3
/-- what cross gives -/
def RxP (lo p : Nat) (w : World) (B n k : Nat) (X : List Value) (S : List (Nat × Nat)) (s : Wk) (v0 : Value) (e : Ending) (w' : World) : Prop := ∃ va vn vc H F, e = .returned (.tuple #[.agg #[.slice (some ⟨B, 0, none⟩) n k, .int .i64 s.now], .agg (cxa (.slice va vn vc) s.cur s.m)]) ∧ H.map Nr.d = s.G ∧ F.map Er.d = s.E ∧ H.length = n ∧ Hst lo p w' B H X S ∧ Ls p w'.heap.size w' (.slice va vn vc) F ∧ F.length = vn ∧ Mw s.m ∧ Below lo w w' ∧ Frm B B v0 w w' ∧ Nxt v0 (.slice va vn vc) w
set_option maxHeartbeats 32000000 in
set_option linter.unusedSimpArgs false in
theorem rcross_up (Z : List Int) (hZl : Z.length = 27) (HZ50 : Hid (∀ w, (zeroValue 50).run Try.prog w = .ok (.agg (cxa (.slice none 0 0) 0 Z)) w)) (HZ41 : Hid (∀ w, (zeroValue 41).run Try.prog w = .ok (.agg (mk Z)) w)) (Z6 : Nr) (hZ6 : Z6.cs.length = 58) (HZ63 : Hid (∀ w, (zeroValue 63).run Try.prog w = .ok (.agg (nd Z6)) w)) (lo p B n k i : Nat) (now : Int) (va : Option Addr) (vn vc : Nat) (cur : Int) (m : List Int) (H : List Nr) (X : List Value) (S : List (Nat × Nat)) (F : List Er) (s : Wk) (w : World)
    (HH : Hid (Hst lo p w B H X S)) (HE : Hid (Ls p w.heap.size w (.slice va vn vc) F)) (hF : F.length = vn) (hn : H.length = n) (hm : Mw m) (hs : StI s H F now cur m) (hi : i < n) (hbd : Hid (∀ r ∈ H, (vn + r.en) * 56 ≤ 140737488355328)) :
    Calls Try.prog 56 #[.agg #[.slice (some ⟨B, 0, none⟩) n k, .int .i64 now], .int .i64 (i : Int), .bool true, .agg (cxa (.slice va vn vc) cur m)] w fun e w' => RxP lo p w B n k X S (s.up i) (.slice va vn vc) e w' := by
  have hml := hm.len
  obtain ⟨r, hr⟩ : ∃ r, H[i]? = some r := ⟨_, List.getElem?_eq_getElem (by omega)⟩
  have hz := HH.out.gow.nz hr
  have hcl := hz.cl
  have HR := mkH hr
  have HN := mkH hn
  have HI : Hid (i < n) := hi
  have HMw := mkH hm
  have HFL := mkH hF
  have HST := mkH hs
  have HBR : Hid ((vn + r.en) * 56 ≤ 140737488355328) := hbd.out r (List.mem_of_getElem? hr)
  have hi0 : (0 : Int) ≤ (i : Int) := by omega
  have hi1 : (i : Int) < (n : Int) := by omega
  obtain ⟨W1, hW1⟩ : ∃ x, (((w.alloc (.cells #[.slice (some ⟨B, 0, none⟩) n k, .int .i64 now] 24)).alloc (.cells (cxa (.slice va vn vc) cur m) 50)).alloc (.cells #[.slice none 0 0, .int .i64 0] 24)).alloc (.cells (cxa (.slice none 0 0) 0 Z) 50) = x := ⟨_, rfl⟩
  obtain ⟨b, hb⟩ : ∃ b, w.heap.size = b := ⟨_, rfl⟩
  have C1 : Hid (Lc W1 b B n k now (.slice va vn vc) cur m Z) := by unfold Hid; rw [← hW1, ← hb]; exact lc_new w B n k now (.slice va vn vc) cur m Z
  have L1 : Hid (Below w.heap.size w W1) := by unfold Hid; rw [← hW1]; exact bAlloc (bAlloc (bAlloc (bAlloc (Below.refl _ _) _) _) _) _
  have HBb : Hid (w.heap.size = b) := hb
  have HBp : Hid (B < b ∧ lo ≤ B ∧ p ≤ b ∧ lo ≤ p) := by have h1 := HH.out.h0; have h2 := HH.out.top; have h3 := HH.out.l0; unfold Hid; omega
  have HVO : Hid (∀ g, (Value.slice va vn vc).ownBlock = some g → p ≤ g ∧ g < b) := fun g hg => by
    have h1 := (HE.out.rs.own 0 _ rfl).lt g hg
    rw [hb] at h1; exact h1
  have H1 := mkH (HH.out.keep L1.out)
  have E1 := mkH (HE.out.keep L1.out)
  have F1 : Hid (Frm B B (.slice va vn vc) w W1) := fun g hg _ _ _ => L1.out.block g hg
  obtain ⟨cv, hcv⟩ : ∃ x, cxa (.slice va vn vc) cur m = x := ⟨_, rfl⟩
  rw [hcv] at hW1
  rw [hcv]
  have hz50 := HZ50.out
  go_enter Try.func56, Try.ntmps56
  go_upto_region 1 with fail
  try rw [hW1]
  clear hW1 hb hcv hz50 hr hz hn hm hs hi hF
  have a0 : W1.cell? ⟨b, 0, none⟩ = some (.slice (some ⟨B, 0, none⟩) n k) := C1.out.k0.cell rfl
  have hnc := H1.out.row.range H1.out.gow.ok HR.out
  have HRG := mkH hnc
  obtain ⟨W2, hW2⟩ : ∃ x, W1.alloc (.cells (nd Z6) 63) = x := ⟨_, rfl⟩
  obtain ⟨q, hq0⟩ : ∃ x, W1.heap.size = x := ⟨_, rfl⟩
  have KZ : Hid (Blk W2 q 63 (nd Z6)) := by unfold Hid; rw [← hW2, ← hq0]; exact Blk.new W1 63 _
  have LZ : Hid (Below W1.heap.size W1 W2) := by unfold Hid; rw [← hW2]; exact bAlloc (Below.refl _ _) _
  have LY : Hid (Below W1.heap.size W1 (W2.setCells q 0 r.cs)) := below_setCells (Nat.le_of_eq hq0) r.cs 0 LZ.out
  have HRG2 := mkH (range_keep HRG.out LZ.out)
  have K2 : Hid (Blk (W2.setCells q 0 r.cs) q 63 (nd r)) := put_blk (cs := r.cs) (old := Z6.cs) (by rw [hZ6, hcl]) KZ.out
  have HT58 : Hid (W2.there q 0 58) := by have := there_blk (cs := Z6.cs) KZ.out; unfold Hid; rwa [hZ6] at this
  have hbq : Hid (b + 1 + 1 + 1 < q) := by have := C1.out.k3.lt; unfold Hid; omega
  have hz63 := HZ63.out
  clear hnc
  go_upto_region 2 with (first | refine wl_ld63 (B := B) (o := i * 58) (.tmp 16) rfl rfl rfl hcl HRG.out ?_ | refine wl_ld63 (B := B) (o := i * 58) (.tmp 16) rfl rfl rfl hcl HRG2.out ?_ | refine wl_st63 (B := q) (o := 0) (r := r) (.tmp 10) (.tmp 17) rfl rfl rfl rfl hcl HT58.out ?_ | fail)
  clear hz63 a0 hW2 hq0
  have L3 := mkH (bT L1.out LY.out)
  have C3 := mkH (C1.out.keep LY.out)
  have H3 := mkH (H1.out.keep LY.out)
  have E3 := mkH (E1.out.keep LY.out)
  have F3 := mkH (F1.out.low LY.out L1.out.size)
  clear LY LZ KZ HRG HRG2 HT58 L1 C1 H1 E1 F1
  generalize W2.setCells q 0 r.cs = w3 at *
  have hwl := (H3.out.gow.nz HR.out).ww.len
  have hdl := (H3.out.gow.nz HR.out).wm.len
  have HZR := mkH (H3.out.gow.nz HR.out)
  have NB := Nb.of K2.out hwl
  have N2 := NB.c2
  have CE := redits_any r.ea r.en r.ec r.E w3 HZR.out.ez HZR.out.len HZR.out.big
  obtain ⟨ea, hea⟩ : ∃ x, r.ea = x := ⟨_, rfl⟩
  obtain ⟨en, hen⟩ : ∃ x, r.en = x := ⟨_, rfl⟩
  obtain ⟨ec, hec⟩ : ∃ x, r.ec = x := ⟨_, rfl⟩
  rw [hea, hen, hec] at N2 CE
  have HRE : Hid (r.ea = ea ∧ r.en = en ∧ r.ec = ec) := ⟨hea, hen, hec⟩
  clear hea hen hec NB
  go_wp2_with fail
  refine CE.mono ?_
  rintro e w5 ⟨v5, F5, rfl, hF5, hL5⟩
  have hb5 := hL5.bel
  have L5 := mkH (bT L3.out hb5)
  have C5 := mkH (C3.out.keep hb5)
  have H5 := mkH (H3.out.keep hb5)
  have E5 := mkH (E3.out.keep hb5)
  have F5r := mkH (F3.out.low hb5 L3.out.size)
  have K5 := mkH (K2.out.keep hb5)
  have HD5 := mkH hF5
  have HL5 := mkH hL5
  have HQ5 : Hid (b + 1 + 1 + 1 < w3.heap.size) := C3.out.k3.lt
  clear CE N2 hF5 hL5 hb5 L3 C3 H3 E3 F3 K2 HZR
  dsimp only

  obtain ⟨a5, c5, rfl⟩ := own_shape HL5.out.own
  have HZR := mkH (H5.out.gow.nz HR.out)
  have NB := Nb.of K5.out hwl
  have N2 := NB.c2
  have CI := rinvert_any r.ea r.en r.ec r.E w5 HZR.out.ez HZR.out.len HZR.out.big
  rw [HRE.out.1, HRE.out.2.1, HRE.out.2.2] at N2 CI
  clear NB
  go_wp2_with fail
  refine CI.mono ?_
  rintro e w6 ⟨v6, F6, rfl, hF6, hL6⟩
  have hb6 := hL6.bel
  have L6 := mkH (bT L5.out hb6)
  have C6 := mkH (C5.out.keep hb6)
  have H6 := mkH (H5.out.keep hb6)
  have E6 := mkH (E5.out.keep hb6)
  have F6r := mkH (F5r.out.low hb6 L5.out.size)
  have K6 := mkH (K5.out.keep hb6)
  have HD6 : Hid (F6.map Er.d = inv (r.E.map Er.d)) := hF6
  have HL6 := mkH (Ls.of hL6)
  have HO6 := mkH hL6
  have HQ6 : Hid (b + 1 + 1 + 1 < w5.heap.size) := C5.out.k3.lt
  have HW6 : Hid (w5.heap.size ≤ w6.heap.size) := hb6.size
  clear CI N2 hF6 hL6 hb6 L5 C5 H5 E5 F5r K5 HZR HD5 HL5 HQ5
  dsimp only
  obtain ⟨wq, hwq⟩ : ∃ x, w5.heap.size = x := ⟨_, rfl⟩
  rw [hwq] at HL6 HQ6 HW6
  have HWU := HW6

  obtain ⟨a6, c6, rfl⟩ := own_shape HO6.out.own
  obtain ⟨un, hun⟩ : ∃ x, F6.length = x := ⟨_, rfl⟩
  rw [hun] at HL6 ⊢
  have HUN := mkH hun
  have HUE : Hid (un = en) := by
    have h1 := congrArg List.length HD6.out
    rw [List.length_map] at h1
    rw [inv_length] at h1
    rw [List.length_map, (H6.out.gow.nz HR.out).len, HRE.out.2.1] at h1
    unfold Hid; rw [← hun]; exact h1
  clear hun HO6 hwq
  have EZ6 := mkH HL6.out.ez
  have NB := Nb.of K6.out hwl
  have N4 := mkH NB.m1
  have N31 := mkH NB.m2
  have M1 := mkH (Cb.of C6.out.k1).mr
  have CX := rcross_any m r.was r.made a6 un c6 F6 w6 hml hwl hdl EZ6.out.row HUN.out (by have := HUE.out; have := HBR.out; have := HRE.out.2.1; omega)
  have ekn : crL m r.was r.made (mvL m (F6.map Er.t)) 27 = crs m r.was r.made (inv (r.E.map Er.d)) := by rw [er_t EZ6.out, HD6.out]; rfl
  obtain ⟨kn, hkn⟩ : ∃ x, crs m r.was r.made (inv (r.E.map Er.d)) = x := ⟨_, rfl⟩
  have HKM : Hid (Mw kn) := by unfold Hid; rw [← hkn]; exact crs_mw HMw.out (H6.out.gow.nz HR.out).ww
  have hkl := HKM.out.len
  rw [ekn, hkn] at CX
  have HKN := mkH hkn
  have HCX := mkH CX
  clear NB CX ekn hkn
  go_wp2_with (first | refine wl_ld41 (B := b + 1) (o := 2) (.tmp 25) rfl rfl rfl hml M1.out ?_ | refine wl_ld41 (B := q) (o := 4) (.tmp 27) rfl rfl rfl hwl N4.out ?_ | refine wl_ld41 (B := q) (o := 31) (.tmp 29) rfl rfl rfl hdl N31.out ?_ | fail)
  refine HCX.out.mono ?_
  rintro e w7 ⟨rfl, hb7⟩
  obtain ⟨W8, hW8⟩ : ∃ x, w7.alloc (.cells (mk Z) 41) = x := ⟨_, rfl⟩
  obtain ⟨q2, hq2⟩ : ∃ x, w7.heap.size = x := ⟨_, rfl⟩
  have LA : Hid (Below w6.heap.size w6 (W8.setCells q2 0 (ml kn))) := below_setCells (by rw [← hq2]; exact hb7.size) _ _ (by rw [← hW8]; exact bT hb7 (bAlloc (Below.refl _ _) _))
  have Q1 : Hid (Blk W8 q2 41 (mk Z)) := by unfold Hid; rw [← hW8, ← hq2]; exact Blk.new w7 41 (mk Z)
  have T27 : Hid (W8.there q2 0 27) := by have := there_blk (cs := ml Z) Q1.out; rw [ml_len, hZl] at this; exact this
  have Q2 : Hid (Blk (W8.setCells q2 0 (ml kn)) q2 41 (mk kn)) := put_blk (cs := ml kn) (old := ml Z) (by rw [ml_len, ml_len, hZl, hkl]) Q1.out
  have hz41 := HZ41.out
  clear HCX N4 N31 M1
  dsimp only
  go_upto_region 6 with (first | refine wl_st41 (B := q2) (o := 0) (.tmp 12) (.tmp 32) rfl rfl rfl rfl hkl T27.out ?_ | fail)
  have HQ2 : Hid (b ≤ q2 ∧ b + 1 + 1 + 1 < q2) := by have h1 := C6.out.k3.lt; have h2 := hb7.size; unfold Hid; omega
  clear hz41 hW8 hq2 hb7 T27 Q1
  have L9 := mkH (bT L6.out LA.out)
  have C9 := mkH (C6.out.keep LA.out)
  have H9 := mkH (H6.out.keep LA.out)
  have E9 := mkH (E6.out.keep LA.out)
  have F9 := mkH (F6r.out.low LA.out L6.out.size)
  have K9 := mkH (K6.out.keep LA.out)
  have U9 := mkH (HL6.out.keep LA.out)
  have Z9 : Hid (wq ≤ (W8.setCells q2 0 (ml kn)).heap.size) := by have := LA.out.size; have := HW6.out; unfold Hid; omega
  have Y9 : Hid (w6.heap.size ≤ (W8.setCells q2 0 (ml kn)).heap.size) := LA.out.size
  clear LA L6 C6 H6 E6 F6r K6 HL6 EZ6 HW6
  generalize W8.setCells q2 0 (ml kn) = w9 at *
  -- the old marks
  have a9 : w9.cell? ⟨b, 0, none⟩ = some (.slice (some ⟨B, 0, none⟩) n k) := C9.out.k0.cell rfl
  have M9 := mkH (Cb.of C9.out.k1).mr
  have T9 := mkH (H9.out.there1 HR.out).1
  go_upto_region 7 with (first | refine wl_ld41 (B := b + 1) (o := 2) (.tmp 36) rfl rfl rfl hml M9.out ?_ | refine wl_st41 (B := B) (o := i * 58 + 4) (.tmp 39) (.tmp 37) rfl rfl rfl rfl hml T9.out ?_ | fail)
  clear a9 M9 T9
  have GA : Hid (w9.grownBy (w9.setCells B (i * 58 + 4) (ml m)) (some B)) := grown_setCells _ _ _
  have HA := mkH (H9.out.was HR.out HMw.out)
  have CA := mkH (C9.out.oth GA.out (fun j hj => by injection hj with hj; have := HBp.out; omega))
  have LA : Hid (Below lo w (w9.setCells B (i * 58 + 4) (ml m))) := below_setCells HBp.out.2.1 _ _ (L9.out.mono (by have := HBb.out; have := HBp.out; omega))
  have EA := mkH (E9.out.kept (Kept.one GA.out) (.inl (by have := HH.out.h0; omega)))
  have UA := mkH (U9.out.kept (Kept.one GA.out) (.inl (by have := HQ6.out; have := HBp.out; omega)))
  have FA := mkH (F9.out.step GA.out L9.out.size (fun j hj => by injection hj with hj; exact .inl hj.symm))
  have KA := mkH (K9.out.grown GA.out (fun e => by injection e with e; have := hbq.out; have := HBp.out; omega))
  have QA := mkH (Q2.out.grown GA.out (fun e => by injection e with e; have := HQ2.out; have := HBp.out; omega))
  have SA : Hid (w.heap.size ≤ (w9.setCells B (i * 58 + 4) (ml m)).heap.size ∧ wq ≤ (w9.setCells B (i * 58 + 4) (ml m)).heap.size ∧ w6.heap.size ≤ (w9.setCells B (i * 58 + 4) (ml m)).heap.size) := ⟨Nat.le_trans L9.out.size GA.out.size, Nat.le_trans Z9.out GA.out.size, Nat.le_trans Y9.out GA.out.size⟩
  clear GA L9 C9 H9 E9 F9 K9 U9 Z9 Y9 Q2
  generalize w9.setCells B (i * 58 + 4) (ml m) = wA at *
  have HRA : Hid ((H.set i { r with was := m })[i]? = some { r with was := m }) := by unfold Hid; rw [List.getElem?_set_self (by rw [HN.out]; exact HI.out)]
  -- the new ones
  have a9 : wA.cell? ⟨b, 0, none⟩ = some (.slice (some ⟨B, 0, none⟩) n k) := CA.out.k0.cell rfl
  have M9 := mkH (range_blk QA.out)
  have T9 := mkH (HA.out.there1 HRA.out).2
  go_upto_region 8 with (first | refine wl_ld41 (B := q2) (o := 0) (.tmp 12) rfl rfl rfl hkl M9.out ?_ | refine wl_st41 (B := B) (o := i * 58 + 31) (.tmp 45) (.tmp 43) rfl rfl rfl rfl hkl T9.out ?_ | fail)
  clear a9 M9 T9
  have GA : Hid (wA.grownBy (wA.setCells B (i * 58 + 31) (ml kn)) (some B)) := grown_setCells _ _ _
  have HB0 := HA.out.made HRA.out HKM.out
  rw [List.set_set] at HB0
  have HB : Hid (Hst lo p (wA.setCells B (i * 58 + 31) (ml kn)) B (H.set i (r.mk2 m kn)) X S) := HB0
  have CB := mkH (CA.out.oth GA.out (fun j hj => by injection hj with hj; have := HBp.out; omega))
  have LB : Hid (Below lo w (wA.setCells B (i * 58 + 31) (ml kn))) := below_setCells HBp.out.2.1 _ _ LA.out
  have EB := mkH (EA.out.kept (Kept.one GA.out) (.inl (by have := HH.out.h0; omega)))
  have UB := mkH (UA.out.kept (Kept.one GA.out) (.inl (by have := HQ6.out; have := HBp.out; omega)))
  have FB := mkH (FA.out.step GA.out SA.out.1 (fun j hj => by injection hj with hj; exact .inl hj.symm))
  have KB := mkH (KA.out.grown GA.out (fun e => by injection e with e; have := hbq.out; have := HBp.out; omega))
  have QB := mkH (QA.out.grown GA.out (fun e => by injection e with e; have := HQ2.out; have := HBp.out; omega))
  have SB : Hid (w.heap.size ≤ (wA.setCells B (i * 58 + 31) (ml kn)).heap.size ∧ wq ≤ (wA.setCells B (i * 58 + 31) (ml kn)).heap.size ∧ w6.heap.size ≤ (wA.setCells B (i * 58 + 31) (ml kn)).heap.size) := ⟨Nat.le_trans SA.out.1 GA.out.size, Nat.le_trans SA.out.2.1 GA.out.size, Nat.le_trans SA.out.2.2 GA.out.size⟩
  clear GA LA CA HA EA FA KA UA QA SA HB0 HRA
  generalize wA.setCells B (i * 58 + 31) (ml kn) = wB at *
  have nb := Nb.of KB.out hwl
  have pc0 := nb.c0
  obtain ⟨pa, hpa⟩ : ∃ x, r.par = x := ⟨_, rfl⟩
  obtain ⟨cu2, hcu⟩ : ∃ x, r.cur = x := ⟨_, rfl⟩
  rw [hpa] at pc0
  have HPA : Hid (r.par = pa ∧ r.cur = cu2) := ⟨hpa, hcu⟩
  clear nb hpa hcu
  have y1 : wB.cell? ⟨b, 1, none⟩ = some (.int .i64 now) := CB.out.k0.cell rfl
  have y2 := CB.out.k0.frozen
  go_upto_region 10 with fail
  clear pc0 y1 y2
  have GC : Hid (wB.grownBy (wB.setCell ⟨b, 1, none⟩ (.int .i64 pa)) (some (b))) := grown_set _ _ _ _
  have CC := mkH (CB.out.now' pa)
  have HC := mkH (HB.out.kept (Kept.one GC.out) (.inr (by have := HBp.out; omega)))
  have EC := mkH (EB.out.kept (Kept.one GC.out) (.inr (by have := HBb.out; omega)))
  have UC := mkH (UB.out.kept (Kept.one GC.out) (.inl (by have := HQ6.out; omega)))
  have FC := mkH (FB.out.step GC.out SB.out.1 (fun j hj => by injection hj with hj; exact .inr (.inr (.inr (by have := HBb.out; omega)))))
  have KC := mkH (KB.out.grown GC.out (fun e => by injection e with e; have := hbq.out; omega))
  have QC := mkH (QB.out.grown GC.out (fun e => by injection e with e; have := HQ2.out; omega))
  have LC : Hid (Below lo w (wB.setCell ⟨b, 1, none⟩ (.int .i64 pa))) := LB.out.setCell (by have := HBp.out; show lo ≤ b; omega) _
  have SC : Hid (w.heap.size ≤ (wB.setCell ⟨b, 1, none⟩ (.int .i64 pa)).heap.size ∧ wq ≤ (wB.setCell ⟨b, 1, none⟩ (.int .i64 pa)).heap.size ∧ w6.heap.size ≤ (wB.setCell ⟨b, 1, none⟩ (.int .i64 pa)).heap.size) := ⟨Nat.le_trans SB.out.1 GC.out.size, Nat.le_trans SB.out.2.1 GC.out.size, Nat.le_trans SB.out.2.2 GC.out.size⟩
  clear GC CB HB EB UB FB KB QB LB SB
  generalize wB.setCell ⟨b, 1, none⟩ (.int .i64 pa) = wC at *
  have pc3 := (Nb.of KC.out hwl).c3
  rw [HPA.out.2] at pc3
  have y1 : wC.cell? ⟨b + 1, 1, none⟩ = some (.int .i64 cur) := CC.out.k1.cell rfl
  have y2 := CC.out.k1.frozen
  go_upto_region 14 with fail
  clear pc3 y1 y2
  have GD : Hid (wC.grownBy (wC.setCell ⟨b + 1, 1, none⟩ (.int .i64 cu2)) (some (b + 1))) := grown_set _ _ _ _
  have CD := mkH (CC.out.cur' cu2)
  have HD := mkH (HC.out.kept (Kept.one GD.out) (.inr (by have := HBp.out; omega)))
  have ED := mkH (EC.out.kept (Kept.one GD.out) (.inr (by have := HBb.out; omega)))
  have UD := mkH (UC.out.kept (Kept.one GD.out) (.inl (by have := HQ6.out; omega)))
  have FD := mkH (FC.out.step GD.out SC.out.1 (fun j hj => by injection hj with hj; exact .inr (.inr (.inr (by have := HBb.out; omega)))))
  have KD := mkH (KC.out.grown GD.out (fun e => by injection e with e; have := hbq.out; omega))
  have QD := mkH (QC.out.grown GD.out (fun e => by injection e with e; have := HQ2.out; omega))
  have LD : Hid (Below lo w (wC.setCell ⟨b + 1, 1, none⟩ (.int .i64 cu2))) := LC.out.setCell (by have := HBp.out; show lo ≤ b + 1; omega) _
  have SD : Hid (w.heap.size ≤ (wC.setCell ⟨b + 1, 1, none⟩ (.int .i64 cu2)).heap.size ∧ wq ≤ (wC.setCell ⟨b + 1, 1, none⟩ (.int .i64 cu2)).heap.size ∧ w6.heap.size ≤ (wC.setCell ⟨b + 1, 1, none⟩ (.int .i64 cu2)).heap.size) := ⟨Nat.le_trans SC.out.1 GD.out.size, Nat.le_trans SC.out.2.1 GD.out.size, Nat.le_trans SC.out.2.2 GD.out.size⟩
  clear GD CC HC EC UC FC KC QC LC SC
  generalize wC.setCell ⟨b + 1, 1, none⟩ (.int .i64 cu2) = wD at *
  have HLA : Hid (w6.heap.size ≤ wD.heap.size) := SD.out.2.2
  obtain ⟨vE, W9, hrun, hls, hgr, hblk, hnx, a9, c9, hvE⟩ := Ls.app ED.out UD.out HFL.out HUN.out (by have := HBp.out; have := HBb.out; omega) (by have := HQ6.out; have := HBb.out; omega) HWU.out HLA.out (by have h1 := HUE.out; have h2 := HBR.out; have h3 := HRE.out.2.1; omega)
  subst hvE
  have y0 : wD.cell? ⟨b + 1, 0, none⟩ = some (.slice va vn vc) := CD.out.k1.cell rfl
  have C9 := mkH (CD.out.oth hgr (fun j hj => by have := hblk j hj; have := HBb.out; omega))
  have H9 : Hid (Hst lo p W9 B (H.set i (r.mk2 m kn)) X S) := by
    refine HD.out.kept (a := p) (b := W9.heap.size) ?_ (.inr (Nat.le_refl _))
    exact ((Kept.refl p W9.heap.size wD).grown hgr (fun g hg => ⟨(hblk g hg).1, .inl (by have := (hblk g hg).2; have := SD.out.1; have := hgr.size; have := HBb.out; omega)⟩))
  have L9 : Hid (Below lo w W9) := LD.out.grown hgr (by have := SD.out.1; have := HBb.out; have := HBp.out; omega) (fun g hg => by have := (hblk g hg).1; have := HBp.out; omega)
  have F9 := mkH (FD.out.step hgr SD.out.1 (fun j hj => .inr (.inr (.inl hj))))
  have Q9 := mkH (QD.out.grown hgr (fun e => by have := (hblk q2 e.symm).2; have := HQ2.out; have := HBb.out; omega))
  have S9 : Hid (w.heap.size ≤ W9.heap.size) := Nat.le_trans SD.out.1 hgr.size
  have HLS := mkH hls
  have HNX : Hid (Nxt (.slice va vn vc) (.slice a9 (vn + un) c9) w) := by
    rcases hnx with e | ⟨g, e, hg⟩
    · exact .inl e
    · exact .inr ⟨g, e, Nat.le_trans SD.out.1 hg⟩
  have HRUN := mkH hrun
  have y1 : W9.cell? ⟨b + 1, 0, none⟩ = some (.slice va vn vc) := C9.out.k1.cell rfl
  have y2 := C9.out.k1.frozen
  clear hrun hls hgr hblk hnx CD HD ED UD FD KD QD LD SD HLA
  go_upto_region 15 with (first | (at_builtin; refine wl_app2 rfl (.tmp 67) (.tmp 68) 38 rfl rfl rfl HRUN.out ?_) | fail)
  clear y0 y1 y2
  have GF : Hid (W9.grownBy (W9.setCell ⟨b + 1, 0, none⟩ (.slice a9 (vn + un) c9)) (some (b + 1))) := grown_set _ _ _ _
  have CF := mkH (C9.out.eds' (.slice a9 (vn + un) c9))
  have HF := mkH (H9.out.kept (Kept.one GF.out) (.inr (by have := HBp.out; omega)))
  have EF := mkH (HLS.out.wr (wr_of C9.out.k1 GF.out) (by decide) (by decide))
  have FF := mkH (F9.out.step GF.out S9.out (fun j hj => by injection hj with hj; exact .inr (.inr (.inr (by have := HBb.out; omega)))))
  have QF := mkH (Q9.out.grown GF.out (fun e => by injection e with e; have := HQ2.out; omega))
  have LF : Hid (Below lo w (W9.setCell ⟨b + 1, 0, none⟩ (.slice a9 (vn + un) c9))) := L9.out.setCell (by have := HBp.out; show lo ≤ b + 1; omega) _
  have SF : Hid (w.heap.size ≤ (W9.setCell ⟨b + 1, 0, none⟩ (.slice a9 (vn + un) c9)).heap.size ∧ W9.heap.size ≤ (W9.setCell ⟨b + 1, 0, none⟩ (.slice a9 (vn + un) c9)).heap.size) := ⟨Nat.le_trans S9.out GF.out.size, GF.out.size⟩
  clear GF C9 H9 HLS F9 Q9 L9 S9 HRUN
  generalize W9.setCell ⟨b + 1, 0, none⟩ (.slice a9 (vn + un) c9) = wF at *
  have M9 := mkH (range_blk QF.out)
  have T9 : Hid (wF.there (b + 1) 2 27) := by have := blk_there (pre := [.slice a9 (vn + un) c9, .int .i64 cu2]) (mid := ml m) (post := []) (by rw [List.append_nil]; exact CF.out.k1); rw [ml_len, hml] at this; exact this
  go_upto_region 16 with (first | refine wl_ld41 (B := q2) (o := 0) (.tmp 12) rfl rfl rfl hkl M9.out ?_ | refine wl_st41 (B := b + 1) (o := 2) (.tmp 72) (.tmp 71) rfl rfl rfl rfl hkl T9.out ?_ | fail)
  clear M9 T9
  have GF : Hid (wF.grownBy (wF.setCells (b + 1) 2 (ml kn)) (some (b + 1))) := grown_setCells _ _ _
  have CG := mkH (CF.out.mrk (m' := kn) (by rw [hml, hkl]))
  have HG := mkH (HF.out.kept (Kept.one GF.out) (.inr (by have := HBp.out; omega)))
  have EG := mkH (EF.out.wr (wr_of CF.out.k1 GF.out) (by decide) (by decide))
  have FG := mkH (FF.out.step GF.out SF.out.1 (fun j hj => by injection hj with hj; exact .inr (.inr (.inr (by have := HBb.out; omega)))))
  have LG : Hid (Below lo w (wF.setCells (b + 1) 2 (ml kn))) := below_setCells (by have := HBp.out; omega) _ _ LF.out
  have SG : Hid (w.heap.size ≤ (wF.setCells (b + 1) 2 (ml kn)).heap.size ∧ W9.heap.size ≤ (wF.setCells (b + 1) 2 (ml kn)).heap.size) := ⟨Nat.le_trans SF.out.1 GF.out.size, Nat.le_trans SF.out.2 GF.out.size⟩
  clear GF CF HF EF FF QF LF SF
  generalize wF.setCells (b + 1) 2 (ml kn) = wG at *
  have D6 : Hid (Below wG.heap.size wG wG.drew) := (Below.refl _ _).drew
  have CH := mkH (CG.out.keep D6.out)
  have HH2 := mkH (HG.out.keep D6.out)
  have EH := mkH (EG.out.keep D6.out)
  have FH := mkH (FG.out.low D6.out SG.out.1)
  have LH : Hid (Below lo w wG.drew) := LG.out.trans (D6.out.mono (by have := SG.out.1; have := HBb.out; have := HBp.out; omega))
  have SH : Hid (w.heap.size ≤ wG.drew.heap.size ∧ W9.heap.size ≤ wG.drew.heap.size) := ⟨Nat.le_trans SG.out.1 D6.out.size, Nat.le_trans SG.out.2 D6.out.size⟩
  clear D6 CG HG EG FG LG SG
  refine wp_region_held (S := fun w' => Blk w' b 24 #[.slice (some ⟨B, 0, none⟩) n k, .int .i64 pa] ∧ Blk w' (b + 1) 50 (cxa (.slice a9 (vn + un) c9) cu2 kn)) (by kernel_rfl) ?_
  change wpAnyH _ _ _ _ _ _ _ _ (World.drew _)
  generalize wG.drew = V8 at *
  refine ta 0 (.agg #[.slice (some ⟨B, 0, none⟩) n k, .int .i64 pa]) rfl (Or.inl ⟨by rfl, fun w9 h9 => by obtain ⟨h1, h2⟩ := h9; have h3 : w9.cell? ⟨b, 0, none⟩ = some (.slice (some ⟨B, 0, none⟩) n k) := h1.cell rfl; have h4 : w9.cell? ⟨b, 1, none⟩ = some (.int .i64 pa) := h1.cell rfl; go_simp⟩) ⟨CH.out.k0, CH.out.k1⟩ ?_
  refine ta 1 (.agg (cxa (.slice a9 (vn + un) c9) cu2 kn)) rfl (yi_ld ty50 rfl (.tmp 7) rfl rfl (cx (.slice a9 (vn + un) c9) cu2 kn) (cx_len hkl) (fun _ h => range_blk h.2)) ⟨CH.out.k0, CH.out.k1⟩ ?_
  try simp only [Act.put, jj1, jj2, jj3, jj4, jj5, jj6]
  refine wpAnyH_all (rs := [2]) (by kernel_rfl) (by simp) (AllH.cons rfl (fun K hK => ?_) AllH.nil)
  have q5 : Hid (V8.there (b + 1 + 1) 0 2) := there_blk (cs := [.slice none 0 0, .int .i64 0]) CH.out.k2
  have G1 : Hid (V8.grownBy (V8.setCells (b + 1 + 1) 0 [.slice (some ⟨B, 0, none⟩) n k, .int .i64 pa]) (some (b + 1 + 1))) := grown_setCells _ _ _
  have D0 : Hid (Blk (V8.setCells (b + 1 + 1) 0 [.slice (some ⟨B, 0, none⟩) n k, .int .i64 pa]) b 24 #[.slice (some ⟨B, 0, none⟩) n k, .int .i64 pa]) := CH.out.k0.grown G1.out (fun e => by injection e with e; omega)
  have D1 : Hid (Blk (V8.setCells (b + 1 + 1) 0 [.slice (some ⟨B, 0, none⟩) n k, .int .i64 pa]) (b + 1) 50 (cxa (.slice a9 (vn + un) c9) cu2 kn)) := CH.out.k1.grown G1.out (fun e => by injection e with e; omega)
  have D2 : Hid (Blk (V8.setCells (b + 1 + 1) 0 [.slice (some ⟨B, 0, none⟩) n k, .int .i64 pa]) (b + 1 + 1) 24 #[.slice (some ⟨B, 0, none⟩) n k, .int .i64 pa]) := put_blk (cs := [.slice (some ⟨B, 0, none⟩) n k, .int .i64 pa]) (old := [.slice none 0 0, .int .i64 0]) rfl CH.out.k2
  have D3 : Hid (Blk (V8.setCells (b + 1 + 1) 0 [.slice (some ⟨B, 0, none⟩) n k, .int .i64 pa]) (b + 1 + 1 + 1) 50 (cxa (.slice none 0 0) 0 Z)) := CH.out.k3.grown G1.out (fun e => by injection e with e; omega)
  have HI2 := mkH (HH2.out.kept (Kept.one G1.out) (.inr (by have := HBp.out; omega)))
  have EI := mkH (EH.out.wr (wr_of CH.out.k2 G1.out) (by decide) (by decide))
  have FI := mkH (FH.out.step G1.out SH.out.1 (fun j hj => by injection hj with hj; exact .inr (.inr (.inr (by have := HBb.out; omega)))))
  have LI : Hid (Below lo w (V8.setCells (b + 1 + 1) 0 [.slice (some ⟨B, 0, none⟩) n k, .int .i64 pa])) := below_setCells (by have := HBp.out; omega) _ _ LH.out
  have SI : Hid (w.heap.size ≤ (V8.setCells (b + 1 + 1) 0 [.slice (some ⟨B, 0, none⟩) n k, .int .i64 pa]).heap.size ∧ W9.heap.size ≤ (V8.setCells (b + 1 + 1) 0 [.slice (some ⟨B, 0, none⟩) n k, .int .i64 pa]).heap.size) := ⟨Nat.le_trans SH.out.1 G1.out.size, Nat.le_trans SH.out.2 G1.out.size⟩
  refine do_st ty24 rfl (.tmp 8) (.tmp 73) rfl rfl [.slice (some ⟨B, 0, none⟩) n k, .int .i64 pa] rfl rfl q5.out (fun v hv => by simp at hv; rcases hv with rfl | rfl <;> rfl) ?_
  clear q5 G1 CH HH2 EH FH LH SH
  generalize V8.setCells (b + 1 + 1) 0 [.slice (some ⟨B, 0, none⟩) n k, .int .i64 pa] = w7x at *
  refine hK _ _ ⟨⟨D0.out, D1.out⟩, ?_⟩
  clear hK K
  try simp only [Act.put, jj1, jj2, jj3, jj4, jj5, jj6]
  refine wpAnyH_all (rs := [3]) (by kernel_rfl) (by simp) (AllH.cons rfl (fun K hK => ?_) AllH.nil)
  have q8 : Hid (w7x.there (b + 1 + 1 + 1) 0 29) := by have := there_blk (cs := cx (.slice none 0 0) 0 Z) D3.out; rwa [cx_len hZl] at this
  have G1 : Hid (w7x.grownBy (w7x.setCells (b + 1 + 1 + 1) 0 (cx (.slice a9 (vn + un) c9) cu2 kn)) (some (b + 1 + 1 + 1))) := grown_setCells _ _ _
  have X0 : Hid (Blk (w7x.setCells (b + 1 + 1 + 1) 0 (cx (.slice a9 (vn + un) c9) cu2 kn)) b 24 #[.slice (some ⟨B, 0, none⟩) n k, .int .i64 pa]) := D0.out.grown G1.out (fun e => by injection e with e; omega)
  have X1 : Hid (Blk (w7x.setCells (b + 1 + 1 + 1) 0 (cx (.slice a9 (vn + un) c9) cu2 kn)) (b + 1) 50 (cxa (.slice a9 (vn + un) c9) cu2 kn)) := D1.out.grown G1.out (fun e => by injection e with e; omega)
  have X2 : Hid (Blk (w7x.setCells (b + 1 + 1 + 1) 0 (cx (.slice a9 (vn + un) c9) cu2 kn)) (b + 1 + 1) 24 #[.slice (some ⟨B, 0, none⟩) n k, .int .i64 pa]) := D2.out.grown G1.out (fun e => by injection e with e; omega)
  have X3 : Hid (Blk (w7x.setCells (b + 1 + 1 + 1) 0 (cx (.slice a9 (vn + un) c9) cu2 kn)) (b + 1 + 1 + 1) 50 (cxa (.slice a9 (vn + un) c9) cu2 kn)) := put_blk (cs := (cx (.slice a9 (vn + un) c9) cu2 kn)) (old := cx (.slice none 0 0) 0 Z) (by rw [cx_len hZl, cx_len hkl]) D3.out
  have HJ2 := mkH (HI2.out.kept (Kept.one G1.out) (.inr (by have := HBp.out; omega)))
  have EJ := mkH (EI.out.wr (wr_of D3.out G1.out) (by decide) (by decide))
  have FJ := mkH (FI.out.step G1.out SI.out.1 (fun j hj => by injection hj with hj; exact .inr (.inr (.inr (by have := HBb.out; omega)))))
  have LJ : Hid (Below lo w (w7x.setCells (b + 1 + 1 + 1) 0 (cx (.slice a9 (vn + un) c9) cu2 kn))) := below_setCells (by have := HBp.out; omega) _ _ LI.out
  have SJ : Hid (W9.heap.size ≤ (w7x.setCells (b + 1 + 1 + 1) 0 (cx (.slice a9 (vn + un) c9) cu2 kn)).heap.size) := Nat.le_trans SI.out.2 G1.out.size
  refine do_st ty50 rfl (.tmp 9) (.tmp 74) rfl rfl (cx (.slice a9 (vn + un) c9) cu2 kn) rfl (cx_len hkl) q8.out cx_one ?_
  clear q8 G1 D0 D1 D2 D3 HI2 EI FI LI SI
  generalize w7x.setCells (b + 1 + 1 + 1) 0 (cx (.slice a9 (vn + un) c9) cu2 kn) = w8x at *
  refine hK _ _ ⟨⟨X0.out, X1.out⟩, ?_⟩
  clear hK K
  try simp only [Act.put, jj1, jj2, jj3, jj4, jj5, jj6]
  refine wpAnyH_done (by kernel_rfl) ?_ _
  have l24 := ld24v X2.out
  have l50 := ld50v hkl X3.out
  go_wp2_with fail
  refine bodyPost_ret (v := .tuple #[.agg #[.slice (some ⟨B, 0, none⟩) n k, .int .i64 pa], .agg (cxa (.slice a9 (vn + un) c9) cu2 kn)]) (by simp [results, Try.results56, asAddr, l24, l50]) rfl ?_
  have hst2 := HST.out.up (k := i) (r := r) (F2 := F6) HR.out HD6.out
  rw [HKN.out, HPA.out.1, HPA.out.2] at hst2
  exact ⟨a9, vn + un, c9, _, _, by rw [hst2.n, hst2.c, hst2.m], hst2.g, hst2.e, by rw [List.length_set]; exact HN.out, HJ2.out, ls_wide EJ.out SJ.out, by rw [List.length_append, HFL.out, HUN.out], by rw [hst2.m]; exact HKM.out, LJ.out, FJ.out, HNX.out⟩
end Go.Proofs.Ytaahklapoppgaaa
