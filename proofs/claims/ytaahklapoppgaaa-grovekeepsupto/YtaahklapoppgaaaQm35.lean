/- The program's Path. -/
import Derived.Test.YtaahklapoppgaaaQm21
import Derived.Test.YtaahklapoppgaaaQm23
import Derived.Test.YtaahklapoppgaaaQm34
import Derived.Test.YtaahklapoppgaaaQm03
namespace Go.Proofs.Ytaahklapoppgaaa
open Go.RowKit

set_option maxRecDepth 8000
def InR (n : Nat) (f t : Int) : Prop := (0 ≤ f ∧ f < (n : Int)) ∧ (0 ≤ t ∧ t < (n : Int))
noncomputable def ptE (D : List Nd) (now f t : Int) : Int := ti (Right D now) (ti (InR D.length f t) 0 2) 180
noncomputable def ptU (D : List Nd) (now f t : Int) : List Nat := if tb (Right D now ∧ InR D.length f t) then pathU D f.toNat t.toNat else []
noncomputable def ptD (D : List Nd) (now f t : Int) : List Nat := if tb (Right D now ∧ InR D.length f t) then pathD D f.toNat t.toNat else []
/-- two lists and an error -/
def PathQ (U D : List Nat) (z : Int) (w : World) (e : Ending) (w' : World) : Prop := ∃ a ca b cb, e = .returned (.tuple #[.slice a U.length ca, .slice b D.length cb, .int .i64 z]) ∧ w'.ownsRow w.heap.size 3 1 (.slice a U.length ca) U.length (iv U) ∧ w'.ownsRow w.heap.size 3 1 (.slice b D.length cb) D.length (iv D) ∧ Below w.heap.size w w'
theorem PathQ.none (z : Int) {w w' : World} (hb : Below w.heap.size w w') : PathQ [] [] z w (.returned (.tuple #[.slice none 0 0, .slice none 0 0, .int .i64 z])) w' := ⟨Option.none, 0, Option.none, 0, rfl, ⟨rfl, .inl ⟨rfl, rfl⟩⟩, ⟨rfl, .inl ⟨rfl, rfl⟩⟩, hb⟩
set_option maxHeartbeats 8000000 in
theorem path_any (ao : Option Addr) (n c : Nat) (now f t : Int) (G : List Nr) (w : World) (HG : Hid (Grz w ao G)) (hn : G.length = n) (hc : n ≤ c) : Calls Try.prog 16 #[.agg #[.slice ao n c, .int .i64 now], .int .i64 f, .int .i64 t] w fun e w' => PathQ (ptU (G.map Nr.d) now f t) (ptD (G.map Nr.d) now f t) (ptE (G.map Nr.d) now f t) w e w' := by
  unfold ptU ptD ptE
  have hlen : (G.map Nr.d).length = n := by rw [List.length_map, hn]
  rw [hlen]
  generalize hW1 : w.alloc (.cells #[.slice ao n c, .int .i64 now] 24) = W1
  have L1 : Hid (Below w.heap.size w W1) := by subst hW1; exact bAlloc (Below.refl _ _) _
  have K1 : Hid (Blk W1 w.heap.size 24 #[.slice ao n c, .int .i64 now]) := by subst hW1; exact Blk.new w 24 _
  have a1 : W1.cell? ⟨w.heap.size, 0, none⟩ = some (.slice ao n c) := K1.out.cell rfl
  have b1 : W1.cell? ⟨w.heap.size, 1, none⟩ = some (.int .i64 now) := K1.out.cell rfl
  have C1 := mkH (check_any ao n c now G W1 (HG.out.keep L1.out) hn hc)
  have CF0 := fun W => has_any ao n c f W
  have CT0 := fun W => has_any ao n c t W
  clear K1
  by_cases hr : Right (G.map Nr.d) now
  · rw [ti_t hr] at C1 ⊢
    by_cases hf : 0 ≤ f ∧ f < (n : Int)
    · rw [decide_eq_true hf] at CF0
      by_cases ht : 0 ≤ t ∧ t < (n : Int)
      · rw [decide_eq_true ht] at CT0
        rw [ti_t (show InR n f t from ⟨hf, ht⟩), tb_t (show Right (G.map Nr.d) now ∧ InR n f t from ⟨hr, hf, ht⟩), if_pos rfl, if_pos rfl]
        obtain ⟨f', rfl⟩ : ∃ k : Nat, f = (k : Int) := ⟨f.toNat, by omega⟩
        obtain ⟨t', rfl⟩ : ∃ k : Nat, t = (k : Int) := ⟨t.toNat, by omega⟩
        rw [Int.toNat_natCast, Int.toNat_natCast]
        have hsz := hr.sz.1
        rw [hlen] at hsz
        have CW := mkH (fun W (hW : Below w.heap.size w W) => way_any ao n c f' t' G W (HG.out.keep hW) hn hsz (by omega) (by omega) hr.hng)
        have CF := mkH CF0
        have CT := mkH CT0
        clear CF0 CT0 hr hf ht hn hlen
        generalize pathU (G.map Nr.d) f' t' = U at *
        generalize pathD (G.map Nr.d) f' t' = D at *
        go_enter Try.func16, Try.ntmps16
        go_wp2_with (first | (go_at_call 17; refine C1.out.mono ?_; rintro e w2 ⟨rfl, hw⟩; have L2 := mkH (bT L1.out hw); have a2 := cell_keep a1 hw; clear hw) | fail)
        refine (CF.out _).mono ?_
        rintro e w3 ⟨rfl, hw⟩
        have hq := hw.symm
        subst hq
        clear hw
        dsimp only
        go_wp2_with fail
        refine (CT.out _).mono ?_
        rintro e w4 ⟨rfl, hw⟩
        have hq := hw.symm
        subst hq
        clear hw
        dsimp only
        go_wp2_with fail
        refine (CW.out _ L2.out).mono ?_
        rintro e w5 ⟨pa, ca, pb, cb, rfl, h1, h2, h3⟩
        have O1 := mkH (own_lower h1 L2.out.size)
        have O2 := mkH (own_lower h2 L2.out.size)
        have L5 := mkH (bT L2.out h3)
        clear h1 h2 h3
        dsimp only
        go_wp2
        exact bodyPost_ret (v := .tuple #[.slice pa U.length ca, .slice pb D.length cb, .int .i64 0]) (by simp [results, Try.results16]) rfl ⟨pa, ca, pb, cb, rfl, O1.out, O2.out, L5.out⟩
      · rw [decide_eq_false ht] at CT0
        rw [ti_f (show ¬ InR n f t from fun h => ht h.2), tb_f (show ¬ (Right (G.map Nr.d) now ∧ InR n f t) from fun h => ht h.2.2), if_neg (by simp), if_neg (by simp)]
        have CF := mkH CF0
        have CT := mkH CT0
        clear CF0 CT0 hr hf ht hn hlen
        go_enter Try.func16, Try.ntmps16
        go_wp2_with (first | (go_at_call 17; refine C1.out.mono ?_; rintro e w2 ⟨rfl, hw⟩; have L2 := mkH (bT L1.out hw); have a2 := cell_keep a1 hw; clear hw) | fail)
        refine (CF.out _).mono ?_
        rintro e w3 ⟨rfl, hw⟩
        have hq := hw.symm
        subst hq
        clear hw
        dsimp only
        go_wp2_with fail
        refine (CT.out _).mono ?_
        rintro e w4 ⟨rfl, hw⟩
        have hq := hw.symm
        subst hq
        clear hw
        dsimp only
        go_wp2
        exact bodyPost_ret (v := .tuple #[.slice none 0 0, .slice none 0 0, .int .i64 2]) (by simp [results, Try.results16]) rfl (PathQ.none 2 L2.out)
    · rw [decide_eq_false hf] at CF0
      rw [ti_f (show ¬ InR n f t from fun h => hf h.1), tb_f (show ¬ (Right (G.map Nr.d) now ∧ InR n f t) from fun h => hf h.2.1), if_neg (by simp), if_neg (by simp)]
      have CF := mkH CF0
      clear CF0 CT0 hr hf hn hlen
      go_enter Try.func16, Try.ntmps16
      go_wp2_with (first | (go_at_call 17; refine C1.out.mono ?_; rintro e w2 ⟨rfl, hw⟩; have L2 := mkH (bT L1.out hw); have a2 := cell_keep a1 hw; clear hw) | fail)
      refine (CF.out _).mono ?_
      rintro e w3 ⟨rfl, hw⟩
      have hq := hw.symm
      subst hq
      clear hw
      dsimp only
      go_wp2
      exact bodyPost_ret (v := .tuple #[.slice none 0 0, .slice none 0 0, .int .i64 2]) (by simp [results, Try.results16]) rfl (PathQ.none 2 L2.out)
  · rw [ti_f hr] at C1 ⊢
    rw [tb_f (show ¬ (Right (G.map Nr.d) now ∧ InR n f t) from fun h => hr h.1), if_neg (by simp), if_neg (by simp)]
    clear CF0 CT0 hr hn hlen
    go_enter Try.func16, Try.ntmps16
    go_wp2_with (go_at_call 17; refine C1.out.mono ?_; rintro e w2 ⟨rfl, hw⟩; have L2 := mkH (bT L1.out hw); clear hw)
    exact bodyPost_ret (v := .tuple #[.slice none 0 0, .slice none 0 0, .int .i64 180]) (by simp [results, Try.results16]) rfl (PathQ.none 180 L2.out)
end Go.Proofs.Ytaahklapoppgaaa

/- The reference's way and Path. -/
namespace Go.Proofs.Ytaahklapoppgaaa
open Go.RowKit

set_option maxRecDepth 8000
def RowP (L : List Nat) (w : World) (e : Ending) (w' : World) : Prop := ∃ a c, e = .returned (.slice a L.length c) ∧ w'.ownsRow w.heap.size 3 1 (.slice a L.length c) L.length (iv L) ∧ Below w.heap.size w w'
theorem own_pos {W : World} {base e s n c : Nat} {pa : Option Addr} {xs : List Value} (h : W.ownsRow base e s (.slice pa n c) n xs) (hn : 0 < n) : ∃ g, pa = some ⟨g, 0, none⟩ ∧ n ≤ c ∧ base ≤ g ∧ g < W.heap.size := by
  rcases h.2 with ⟨h1, h2⟩ | ⟨g, cap, cur, h1, h2, h3, h4, -⟩
  · omega
  · simp at h1; obtain ⟨rfl, rfl⟩ := h1; exact ⟨g, rfl, h4, h2, (Array.getElem?_eq_some_iff.1 h3).1⟩
theorem own_kind {W : World} {base e s n g : Nat} {v : Value} {xs : List Value} (h : W.ownsRow base e s v n xs) (hg : v.ownBlock = some g) : ∃ cur, W.heap[g]? = some (.cells cur e (0, 0)) := by
  rcases h.2 with ⟨rfl, -⟩ | ⟨g', cap, cur, rfl, h2, h3, -⟩
  · cases hg
  · cases hg; exact ⟨cur, h3⟩
theorem size3 (w : World) : (sizeOf 3).run Try.prog w = .ok 1 w := by kernel_rfl
theorem elem29 : Try.prog.elem 29 = 3 := by kernel_rfl
theorem und29 : Try.prog.underlying 29 = some (.slice (Try.prog.elem 29)) := by kernel_rfl
theorem sl29 {g n c m : Nat} (hm : m ≤ n) (hc : n ≤ c) (W : World) : (Instr.sliceAt 29 (.slice (some ⟨g, 0, none⟩) n c) none (some (.int .i64 (m : Int))) none).run Try.prog W = .ok (.slice (some ⟨g, 0, none⟩) m c) W := by
  rw [run_sliceAt_slice W 29 _ _ _ _ und29, run_slice_h W 29 _ n c und29 .i64 (m : Int) (by omega) (by omega), elem29, size3]
  show Result.ok (sliced _ 0 ((m : Int).toNat) c 1) W = _
  rw [Int.toNat_natCast]
  unfold sliced
  by_cases h : c = 0
  · have : m = 0 := by omega
    subst this
    subst h
    simp
  · simp [h]
    rfl
theorem strip_snoc (a b : List Nat) (x : Nat) : strip (a ++ [x]) (b ++ [x]) = strip a b := by
  unfold strip
  simp only [List.reverse_append, List.reverse_cons, List.reverse_nil, List.nil_append, List.singleton_append]
  rw [show strip.go (x :: a.reverse) (x :: b.reverse) = strip.go a.reverse b.reverse by conv => lhs; unfold strip.go; rw [if_pos rfl]]
theorem strip_nil1 (b : List Nat) : strip [] b = ([], b) := by
  unfold strip
  simp only [List.reverse_nil]
  unfold strip.go
  simp
theorem strip_nil2 (a : List Nat) : strip a [] = (a, []) := by
  unfold strip
  simp only [List.reverse_nil]
  have h : ∀ x : List Nat, strip.go x [] = (x, []) := fun x => by cases x <;> rfl
  rw [h]
  simp
theorem strip_ne (a b : List Nat) {x y : Nat} (h : x ≠ y) : strip (a ++ [x]) (b ++ [y]) = (a ++ [x], b ++ [y]) := by
  unfold strip
  simp only [List.reverse_append, List.reverse_cons, List.reverse_nil, List.nil_append, List.singleton_append]
  rw [show strip.go (x :: a.reverse) (y :: b.reverse) = (x :: a.reverse, y :: b.reverse) by conv => lhs; unfold strip.go; rw [if_neg h]]
  simp
set_option maxHeartbeats 8000000 in
theorem rway_walk (par : Nat → Nat) (g o n c f : Nat) (now : Int) (A : List Nat) (w : World) (hp : Hid (Low par n)) (hb : n ≤ 4097) (hf : f < n) (HA : Hid (way par f = A))
    (HC : Hid (∀ i, 0 < i → i < n → w.cell? ⟨g, o + i * 58, none⟩ = some (.int .i64 (par i : Int)))) :
    Calls Try.prog 43 #[.agg #[.slice (some ⟨g, o, none⟩) n c, .int .i64 now], .int .i64 (f : Int)] w fun e w' => RowP A w e w' := by
  obtain ⟨i3, hi3, hz3, hs3, hb3⟩ := info_parts info3
  have HLA : Hid (A.length ≤ 4097) := by unfold Hid; rw [← HA.out]; have := way_len hp.out hf; omega
  generalize hW1 : w.alloc (.cells #[.slice (some ⟨g, o, none⟩) n c, .int .i64 now] 24) = W1
  have L1 : Hid (Below w.heap.size w W1) := by subst hW1; exact bAlloc (Below.refl _ _) _
  have K1 : Hid (Blk W1 w.heap.size 24 #[.slice (some ⟨g, o, none⟩) n c, .int .i64 now]) := by subst hW1; exact Blk.new w 24 _
  go_enter Try.func43, Try.ntmps43
  go_wp2_with fail
  clear hW1
  go_loopg [1, 5] f (fun m x1 x5 wx => x1 = .int .i64 (m : Int) ∧ m < n ∧ ∃ (p : List Nat) (a5 : Option Addr) (c5 : Nat), x5 = .slice a5 p.length c5 ∧ Hid (A = p ++ way par m) ∧ Hid (wx.ownsRow w.heap.size 3 1 (.slice a5 p.length c5) p.length (iv p)) ∧ Hid (Below w.heap.size w wx) ∧ Hid (Blk wx w.heap.size 24 #[.slice (some ⟨g, o, none⟩) n c, .int .i64 now]))
  case atStart => exact ⟨rfl, hf, [], none, 0, rfl, HA.out.symm, ⟨rfl, .inl ⟨rfl, rfl⟩⟩, L1.out, K1.out⟩
  case round =>
    obtain ⟨rfl, hgn, p, a5, c5, rfl, KA, KR, KB, KK⟩ := hrel
    by_cases hz : gk = 0
    · subst hz
      have HP : Hid (A = p) := by unfold Hid; rw [KA.out, way_zero, List.append_nil]
      go_wp2
      go_ret
      exact ⟨a5, c5, by rw [HP.out]; rfl, by rw [HP.out]; exact KR.out, KB.out⟩
    · have hz1 : (0 : Int) < (gk : Int) := by omega
      have hi' : (gk : Int) < (n : Int) := by omega
      have hi0 : (0 : Int) ≤ (gk : Int) := by omega
      have hpl := hp.out gk (by omega) hgn
      have HS : Hid (A = (p ++ [gk]) ++ way par (par gk)) := by unfold Hid; rw [KA.out, way_step hp.out (by omega) hgn, List.append_assoc]; rfl
      have HLP : Hid (p.length ≤ 4097) := by
        have h1 := HLA.out
        have h3 := congrArg List.length KA.out
        rw [List.length_append] at h3
        unfold Hid; omega
      have JRa : Hid ((wr.alloc (.cells #[.int .i64 (gk : Int)] 3)).ownsRow w.heap.size 3 1 (.slice a5 p.length c5) p.length (iv p)) := own_keep KR.out (bAlloc (Below.refl _ _) _)
      have JLa : Hid (Below w.heap.size w (wr.alloc (.cells #[.int .i64 (gk : Int)] 3))) := bAlloc KB.out _
      have JKa : Hid (Blk (wr.alloc (.cells #[.int .i64 (gk : Int)] 3)) w.heap.size 24 #[.slice (some ⟨g, o, none⟩) n c, .int .i64 now]) := KK.out.keep (bAlloc (Below.refl _ _) _)
      have H7 : Hid (∀ k, (Value.slice a5 p.length c5).ownBlock = some k → w.heap.size ≤ k) := fun k hk => (KR.out.lt k hk).1
      have SRa : Hid (Srv (wr.alloc (.cells #[.int .i64 (gk : Int)] 3)) (.slice (some ⟨wr.heap.size, 0, none⟩) 1 1) 1 [.int .i64 (gk : Int)]) := .inr ⟨_, _, rfl, fun j t hj => lit_cells wr #[.int .i64 (gk : Int)] 3 j t hj⟩
      have Q1 : Hid (p.length + 1 ≤ maxLen) := by have := HLP.out; unfold Hid maxLen; omega
      have Q2 : Hid ((p.length + 1) * 8 ≤ 140737488355328) := by have := HLP.out; unfold Hid; omega
      have Q3 : Hid (w.heap.size ≤ (wr.alloc (.cells #[.int .i64 (gk : Int)] 3)).heap.size) := JLa.out.size
      have HNB : Hid (∀ k, (Value.slice a5 p.length c5).ownBlock = some k → k ≠ w.heap.size) := fun k hk e => by
        subst e
        obtain ⟨cur, h1⟩ := own_kind KR.out hk
        have h2 := KK.out
        unfold Blk at h2
        rw [h2] at h1
        simp at h1
      have T0 : Hid (w.cell? ⟨g, o + gk * 58, none⟩ = some (.int .i64 (par gk : Int))) := HC.out gk (by omega) hgn
      clear hz
      go_wp2_with (first | (at_builtin; refine append_srv rfl (.tmp 8) (.tmp 10) 29 rfl w.heap.size 3 i3 (.int .i64 0) 1 8 Try.underlying29 hi3 hz3 hs3 hb3 rfl (by decide) (.slice a5 p.length c5) p.length (iv p) rfl JRa.out (.slice (some ⟨wr.heap.size, 0, none⟩) 1 1) 1 [.int .i64 (gk : Int)] rfl SRa.out rfl (iv_one [gk]) Q1.out Q2.out Q3.out ?_; intro v' w5 ho hg hf5; have L5 := mkH (JLa.out.grown hg JLa.out.size H7.out); have R5 := mkH ho; have K5 := mkH (JKa.out.grown hg (fun e => HNB.out _ e.symm rfl)); have t5 := cell_keep T0.out L5.out; have a6 := blk_cell0 K5.out; clear ho hg hf5) | fail)
      obtain ⟨a9, c9, rfl⟩ := own_shape R5.out
      go_roundg (par gk)
      case measure => omega
      case rel => exact ⟨rfl, by omega, p ++ [gk], a9, c9, by rw [List.length_append]; rfl, HS.out, by rw [iv_append, List.length_append]; exact R5.out, L5.out, K5.out⟩
theorem rway_any (ao : Option Addr) (n c f : Nat) (now : Int) (G : List Nr) (w : World) (HG : Hid (Grz w ao G)) (hn : G.length = n) (hb : n ≤ 4097) (hf : f < n) (HH : Hid (Hangs (G.map Nr.d))) :
    Calls Try.prog 43 #[.agg #[.slice ao n c, .int .i64 now], .int .i64 (f : Int)] w fun e w' => RowP (way (pr (G.map Nr.d)) f) w e w' := by
  obtain ⟨g, o, rfl, hat0⟩ := HG.out.base (by omega)
  have hlen : (G.map Nr.d).length = n := by rw [List.length_map, hn]
  have hp := HH.out.low
  rw [hlen] at hp
  refine rway_walk (pr (G.map Nr.d)) g o n c f now _ w hp hb hf rfl fun i h0 hi => ?_
  obtain ⟨r, hr⟩ : ∃ r, G[i]? = some r := ⟨_, List.getElem?_eq_getElem (by omega)⟩
  obtain ⟨k, e1, e2, -⟩ := par_at rfl HH.out hr h0
  have := (hat0 i r hr).c0
  rw [e1, e2] at this
  exact this
end Go.Proofs.Ytaahklapoppgaaa

