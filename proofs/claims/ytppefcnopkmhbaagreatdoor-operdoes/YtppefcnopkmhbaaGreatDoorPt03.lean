/- Rep2, Rep3, Rep4, Pch -/
import Derived.Test.YtppefcnopkmhbaaGreatDoorPt02
import Derived.Test.YtppefcnopkmhbaaGreatDoorPt00
namespace Go.Proofs.YtppefcnopkmhbaaGreatDoor
open Go.RowKit

set_option maxRecDepth 8000
theorem cl_none {W : World} {c : Nat} {a : Addr} (ty : Nat) : (Builtin.clear_ #[22] ty #[.slice (some a) 0 c]).run Tryz.prog W = .ok (.tuple #[]) W := by
  simp [Builtin.clear_, run_underlying Tryz.underlying22]
/-- clear, of something or nothing -/
theorem cl_ty {W : World} {g lo k c : Nat} {X : List Value} {a : Addr} (h : Blk W g 5 X.toArray) (hp : Pt g lo k a) (hX : lo + k ≤ X.length) :
    ∃ W', (∀ ty, (Builtin.clear_ #[22] ty #[.slice (some a) k c]).run Tryz.prog W = .ok (.tuple #[]) W') ∧ Blk W' g 5 (pat X lo (List.replicate k (Value.int .u8 0))).toArray ∧ W.grownBy W' (some g) := by
  by_cases h0 : k = 0
  · subst h0
    exact ⟨W, fun ty => cl_none ty, by unfold pat; simpa using h, ⟨rfl, rfl, rfl, Nat.le_refl _, fun _ _ _ => rfl⟩⟩
  · obtain ⟨W', hr, h2, h3⟩ := cl_own (c := c) 0 h hp (by omega) hX
    exact ⟨W', fun ty => hr, h2, h3⟩
theorem ap_ty {W : World} {g i c m : Nat} {X : List Value} {u : Value} {news : List Value} (h : Blk W g 5 X.toArray) (hX : X.length = c) (hc : c ≤ maxLen) (hi : i + m ≤ c) (hs : Srv W u m news) (hl : news.length = m) (h1 : ∀ v ∈ news, v.oneCell' = true) :
    ∃ W', (∀ ty, (Builtin.append_ #[22, 22] ty #[.slice (some ⟨g, 0, none⟩) i c, u]).run Tryz.prog W = .ok (.slice (some ⟨g, 0, none⟩) (i + m) c) W') ∧ Blk W' g 5 (pat X i news).toArray ∧ W.grownBy W' (some g) := by
  obtain ⟨W', hr, h2⟩ := ap_own 0 h hX hc hi hs hl h1
  exact ⟨W', fun ty => hr, h2⟩
theorem pat_take {X V : List Value} {i m : Nat} (hV : V.length = m) (hi : i + m ≤ X.length) : (pat X i V).take (i + m) = X.take i ++ V := by
  unfold pat
  rw [List.take_left' (by rw [List.length_append, List.length_take]; omega)]
theorem pat_low {X V : List Value} {i k : Nat} (hk : k ≤ i) (hi : i ≤ X.length) : (pat X i V).take k = X.take k := by
  unfold pat
  rw [List.append_assoc, List.take_append_of_le_length (by rw [List.length_take]; omega), List.take_take, show min k i = k by omega]
theorem pat_high {X V : List Value} {i k : Nat} (hk : i + V.length ≤ k) (hi : i + V.length ≤ X.length) : (pat X i V).drop k = X.drop k := by
  have e : ∀ (A B : List Value) (k : Nat), A.length ≤ k → (A ++ B).drop k = B.drop (k - A.length) := fun A B k h => by
    rw [List.drop_append, List.drop_eq_nil_of_le h, List.nil_append]
  unfold pat
  rw [e _ _ _ (by rw [List.length_append, List.length_take]; omega), List.drop_drop, List.length_append, List.length_take]
  congr 1; omega
set_option maxHeartbeats 4000000 in
/-- all bytes from i on, into a new row -/
theorem rep_endg (base g n c i : Nat) (T : List UInt8) (X : List Value) (vo : Option Addr) (m vc : Nat) (V : List UInt8) (w : World) (HB : Hid (Blk w g 5 X.toArray)) (HX : Hid (X.length = c)) (HT : Hid (X.take n = bv T)) (HV : Hid (Tx w vo m vc V)) (hi : i < n) (hnc : n ≤ c) (hroom : c < i + m) (hc : c ≤ maxLen) (hg : base ≤ g) (hm2 : m ≤ 140737488355328) (hb : i + m ≤ 150000000000000) (hbase : base ≤ w.heap.size) :
    Calls Tryz.prog 95 #[.slice (some ⟨g, 0, none⟩) n c, .int .i64 (i : Int), .int .i64 (n : Int), .slice vo m vc] w fun e w' => RepP base (.slice (some ⟨g, 0, none⟩) n c) (i + m) (T.take i ++ V) w e w' := by
  have hz1 : ¬ ((i : Int) = (n : Int)) := by omega
  obtain ⟨a1, c1, hs1, -⟩ := so_lh g n c i n (y := (i : Int)) (z := (n : Int)) (by omega) hnc rfl rfl
  have hs2 := so_h g n c i (z := (i : Int)) (by omega) rfl
  have hvl := HV.out.len
  have hown : w.ownsRow base 5 1 (.slice (some ⟨g, 0, none⟩) i c) i (bv (T.take i)) := own_blk HB.out hg HX.out (by omega) hc (by rw [bv_take, ← HT.out, List.take_take, show min i n = i by omega])
  obtain ⟨v', w', hr, h2, h3, h4⟩ := run_bg 22 base (.slice (some ⟨g, 0, none⟩) i c) i (bv (T.take i)) hown (.slice vo m vc) m (bv V) HV.out.srv (by rw [bv_length]; exact hvl) (bv_one V) hb (.inl hm2) hbase
  rw [← bv_append] at h2
  obtain ⟨ao', c', rfl⟩ := own_shape h2
  obtain ⟨im, him⟩ : ∃ im, im = i + m := ⟨_, rfl⟩
  rw [← him] at h2 hr h4 ⊢
  have hz2 : ¬ ((im : Int) < (n : Int)) := by omega
  have H2 := Hid.mk' h2
  have H3 := Hid.mk' h3
  have H4 := Hid.mk' h4
  have HR : Hid (∀ ty, (Builtin.append_ #[22, 22] ty #[.slice (some ⟨g, 0, none⟩) i c, .slice vo m vc]).run Tryz.prog w = .ok (.slice ao' im c') w') := fun ty => hr
  clear h2 h3 h4 hr hown hvl HB HX HT HV hi hnc hroom hc hg hm2 hb hbase him
  go_enter Tryz.func95, Tryz.ntmps95
  go_wp2_with (at_builtin; refine wl_app rfl 22 _ _ rfl _ _ rfl rfl HR.out ?_)
  go_ret
  exact ⟨_, rfl, H2.out, H3.out, H4.out⟩
set_option maxHeartbeats 4000000 in
/-- all bytes from i on, in place -/
theorem rep_endr (base g n c i : Nat) (T : List UInt8) (X : List Value) (vo : Option Addr) (m vc : Nat) (V : List UInt8) (w : World) (HB : Hid (Blk w g 5 X.toArray)) (HX : Hid (X.length = c)) (HT : Hid (X.take n = bv T)) (HV : Hid (Tx w vo m vc V)) (hi : i < n) (hnc : n ≤ c) (hroom : i + m ≤ c) (hc : c ≤ maxLen) (hg : base ≤ g) :
    Calls Tryz.prog 95 #[.slice (some ⟨g, 0, none⟩) n c, .int .i64 (i : Int), .int .i64 (n : Int), .slice vo m vc] w fun e w' => RepP base (.slice (some ⟨g, 0, none⟩) n c) (i + m) (T.take i ++ V) w e w' := by
  have hz1 : ¬ ((i : Int) = (n : Int)) := by omega
  obtain ⟨a1, c1, hs1, -⟩ := so_lh g n c i n (y := (i : Int)) (z := (n : Int)) (by omega) hnc rfl rfl
  have hs2 := so_h g n c i (z := (i : Int)) (by omega) rfl
  have hvl := HV.out.len
  have hXl := HX.out
  obtain ⟨W1, hr1, B1, G1⟩ := ap_ty HB.out hXl hc hroom HV.out.srv (by rw [bv_length]; exact hvl) (bv_one V)
  obtain ⟨im, him⟩ : ∃ im, im = i + m := ⟨_, rfl⟩
  have hl1 : (pat X i (bv V)).length = c := by rw [pat_length (by rw [bv_length]; omega)]; exact hXl
  have ht1 : (pat X i (bv V)).take im = bv (T.take i ++ V) := by
    rw [him, pat_take (by rw [bv_length]; exact hvl) (by omega), bv_append, bv_take, ← HT.out, List.take_take, show min i n = i by omega]
  rw [← him] at hr1 ⊢
  by_cases hsh : im < n
  · have hz2 : (im : Int) < (n : Int) := by omega
    obtain ⟨a2, c2, hs3, hp2⟩ := so_lk g n c im (n - im) (z := (im : Int)) hnc (by omega) rfl rfl
    obtain ⟨W2, hr2, B2, G2⟩ := cl_ty (c := c2) B1 hp2 (by omega)
    have HO : Hid (W2.ownsRow base 5 1 (.slice (some ⟨g, 0, none⟩) im c) im (bv (T.take i ++ V))) := by
      refine own_blk B2 hg ?_ (by omega) hc ?_
      · rw [pat_length (by rw [List.length_replicate]; omega)]; exact hl1
      · rw [pat_low (Nat.le_refl _) (by omega)]; exact ht1
    have HG : Hid (w.grownBy W2 (some g)) := G1.trans G2
    have HR := Hid.mk' hr1
    clear hvl HB HX HT HV hi hnc hroom hc hg him hsh hr1 B1 G1 B2 G2 hp2 hl1 ht1 hXl
    go_enter Tryz.func95, Tryz.ntmps95
    go_wp2_with (at_builtin; refine wl_app rfl 22 _ _ rfl _ _ rfl rfl HR.out ?_)
    go_ret
    exact ⟨_, rfl, HO.out, HG.out, .inl rfl⟩
  · have hz2 : ¬ (im : Int) < (n : Int) := by omega
    have HO : Hid (W1.ownsRow base 5 1 (.slice (some ⟨g, 0, none⟩) im c) im (bv (T.take i ++ V))) := own_blk B1 hg hl1 (by omega) hc ht1
    have HG := Hid.mk' G1
    have HR := Hid.mk' hr1
    clear hvl HB HX HT HV hi hnc hroom hc hg him hsh hr1 B1 G1 hl1 ht1 hXl
    go_enter Tryz.func95, Tryz.ntmps95
    go_wp2_with (at_builtin; refine wl_app rfl 22 _ _ rfl _ _ rfl rfl HR.out ?_)
    go_ret
    exact ⟨_, rfl, HO.out, HG.out, .inl rfl⟩
end Go.Proofs.YtppefcnopkmhbaaGreatDoor

namespace Go.Proofs.YtppefcnopkmhbaaGreatDoor
open Go.RowKit

set_option maxRecDepth 8000
set_option maxHeartbeats 4000000 in
/-- into a new row -/
theorem rep_grow (base g n c i j : Nat) (T : List UInt8) (X : List Value) (va : Addr) (m vc tot : Nat) (V : List UInt8) (w : World) (HB : Hid (Blk w g 5 X.toArray)) (HX : Hid (X.length = c)) (HT : Hid (X.take n = bv T)) (HV : Hid (Tx w (some va) m vc V)) (hij : i < j) (hjn : j < n) (hnc : n ≤ c) (htot : tot = i + m + (n - j)) (hroom : c < tot) (hb : tot ≤ 150000000000000) (hbase : base ≤ w.heap.size) :
    Calls Tryz.prog 95 #[.slice (some ⟨g, 0, none⟩) n c, .int .i64 (i : Int), .int .i64 (j : Int), .slice (some va) m vc] w fun e w' => RepP base (.slice (some ⟨g, 0, none⟩) n c) tot (T.take i ++ V ++ T.drop j) w e w' := by
  obtain ⟨im, him⟩ : ∃ im, im = i + m := ⟨_, rfl⟩
  obtain ⟨nj, hnj⟩ : ∃ nj, nj = n - j := ⟨_, rfl⟩
  obtain ⟨k, hk⟩ : ∃ k, k = tot - i := ⟨_, rfl⟩
  obtain ⟨q, hq⟩ : ∃ q, q = w.heap.size := ⟨_, rfl⟩
  have hglt := HB.out.lt
  have hz1 : ¬ ((i : Int) = (j : Int)) := by omega
  have hz2 : ¬ ((j : Int) = (n : Int)) := by omega
  have hw1 : IntKind.i64.wrap ((i : Int) + (m : Int)) = (im : Int) := by rw [IntKind.wrap_i64]; omega
  have hw2 : IntKind.i64.wrap ((im : Int) + (nj : Int)) = (tot : Int) := by rw [IntKind.wrap_i64]; omega
  have hw3 : IntKind.i64.wrap ((tot : Int) - (i : Int)) = (k : Int) := by rw [IntKind.wrap_i64]; omega
  have hz3 : (c : Int) < (tot : Int) := by omega
  obtain ⟨a0, c0, hs0, -⟩ := so_lh g n c i j (y := (i : Int)) (z := (j : Int)) (by omega) (by omega) rfl rfl
  obtain ⟨a1, c1, hs1, hp1⟩ := so_lk g n c j nj (z := (j : Int)) hnc (by omega) rfl hnj
  have hs2 := so_h g n c i (z := (i : Int)) (by omega) rfl
  have hXl := HX.out
  have hvl := HV.out.len
  have hVt : (bv V).take m = bv V := List.take_of_length_le (by rw [bv_length]; omega)
  obtain ⟨W1, G, hr1, B1, G1, hG1, hG2⟩ := az_ty (W := w.drew) (z := (k : Int)) HB.out hXl (show i ≤ c by omega) (show tot = i + k by omega) (by omega) rfl (by omega)
  rw [show w.drew.heap.size = q from hq.symm] at hr1 B1
  obtain ⟨a3, c3, hs3, hp3⟩ := so_lk q tot G i k (z := (i : Int)) (by omega) (by omega) rfl hk
  obtain ⟨a4, c4, hs4, hp4⟩ := so_lk q tot G im nj (z := (im : Int)) (by omega) (by omega) rfl (by omega)
  have hV1 : Tx W1 (some va) m vc V := (HV.out.keep (Below.refl _ _).drew).grown G1 (fun _ _ _ => by simp)
  have hl1 : (X.take i ++ List.replicate k (Value.int .u8 0) ++ List.replicate (G - tot) (Value.int .u8 0)).length = G := by simp only [List.length_append, List.length_take, List.length_replicate]; omega
  obtain ⟨W2, hr2, B2, G2⟩ := cp_ty (W := W1) (dc := c3) (k := m) (lo := i) B1 hp3 hV1.srv (by rw [bv_length]; exact hvl) (by rw [hVt]; exact bv_one V) (by rw [Nat.min_def]; split <;> omega) (by omega)
  rw [hVt] at B2
  have hl2 : (pat (X.take i ++ List.replicate k (Value.int .u8 0) ++ List.replicate (G - tot) (Value.int .u8 0)) i (bv V)).length = G := by rw [pat_length (by rw [hl1, bv_length]; omega)]; exact hl1
  have X2 : Blk W2 g 5 X.toArray := (Blk.grown (W := w.drew) HB.out G1 (by simp)).grown G2 (by intro e; injection e with e; omega)
  have hSl : ((X.drop j).take nj).take nj = (X.take n).drop j := by
    rw [List.take_take, Nat.min_self, hnj, ← List.drop_take]
  obtain ⟨W3, hr3, B3, G3⟩ := cp_ty (W := W2.drew) (dc := c4) (k := nj) (u := .slice (some a1) nj c1) (m := nj) B2 hp4 (srv_pt (W := W2.drew) X2 hp1) (by rw [List.length_take, List.length_drop]; omega) (by rw [hSl, HT.out, ← bv_drop]; exact bv_one _) (by rw [Nat.min_self]) (by rw [hl2]; omega)
  rw [hSl] at B3
  have hSn : ((X.take n).drop j).length = nj := by rw [List.length_drop, List.length_take]; omega
  have HO : Hid (W3.ownsRow base 5 1 (.slice (some ⟨q, 0, none⟩) tot G) tot (bv (T.take i ++ V ++ T.drop j))) := by
    refine own_blk B3 (by omega) ?_ hG1 hG2 ?_
    · rw [pat_length (by rw [hl2]; omega)]; exact hl2
    · have h9 := new_list (A := X.take i) (V := bv V) (S := (X.take n).drop j) (i := i) (m := m) (k := k) (G := G - tot) (by rw [List.length_take]; omega) (by rw [bv_length]; exact hvl) (by omega)
      rw [him, show tot = i + k by omega]
      rw [show G - tot = G - (i + k) by omega] at h9
      rw [h9, bv_append, bv_append, bv_take, bv_drop, ← HT.out, List.take_take, show min i n = i by omega]
  have HG : Hid (w.grownBy W3 (some g)) := grown_some (grown_new ((grown_new ((grown_drew w).trans G1) G2 (by omega)).trans (grown_drew W2)) G3 (by omega)) _
  have HQ : Hid (w.heap.size ≤ q) := by unfold Hid; omega
  have HR1 := Hid.mk' hr1
  have HR3 := Hid.mk' hr3
  clear hVt hglt B1 G1 B2 G2 B3 G3 X2 hV1 hSl hSn hXl hvl hr1 hr3 hp1 hp3 hp4 HB HX HT HV hl1 hl2 hq hk hG1 hG2 him hnj hroom hij hjn hb hbase hnc htot
  have hmx : Tryz.prog.follows .mixedOrders = true := by kernel_rfl
  go_enter Tryz.func95, Tryz.ntmps95
  go_wp2_with (at_builtin; refine wl_app rfl 3 _ _ rfl _ _ rfl rfl HR1.out ?_)
  go_region
  go_wp2_with (at_builtin; refine wl_app rfl 3 _ _ rfl _ _ rfl rfl HR1.out ?_)
  go_region_law (refine st_copy rfl _ _ rfl _ _ (by simp [Act.eval, Act.put]) (by simp [Act.eval, Act.put]) HR3.out ?_)
  go_wp2
  go_ret
  exact ⟨_, rfl, HO.out, HG.out, .inr ⟨q, rfl, HQ.out⟩⟩
end Go.Proofs.YtppefcnopkmhbaaGreatDoor

namespace Go.Proofs.YtppefcnopkmhbaaGreatDoor
open Go.RowKit

set_option maxRecDepth 8000
set_option maxHeartbeats 4000000 in
/-- in place, not longer than what is taken out -/
theorem rep_low (base g n c i j : Nat) (T : List UInt8) (X : List Value) (vo : Option Addr) (m vc tot : Nat) (V : List UInt8) (w : World) (HB : Hid (Blk w g 5 X.toArray)) (HX : Hid (X.length = c)) (HT : Hid (X.take n = bv T)) (HV : Hid (Tx w vo m vc V)) (hij : i < j) (hjn : j < n) (hnc : n ≤ c) (hc : c ≤ maxLen) (htot : tot = i + m + (n - j)) (hroom : tot ≤ c) (hlow : i + m ≤ j) (hg : base ≤ g) :
    Calls Tryz.prog 95 #[.slice (some ⟨g, 0, none⟩) n c, .int .i64 (i : Int), .int .i64 (j : Int), .slice vo m vc] w fun e w' => RepP base (.slice (some ⟨g, 0, none⟩) n c) tot (T.take i ++ V ++ T.drop j) w e w' := by
  have hc63 : c ≤ 9223372036854775807 := by unfold maxLen at hc; omega
  obtain ⟨im, him⟩ : ∃ im, im = i + m := ⟨_, rfl⟩
  obtain ⟨nj, hnj⟩ : ∃ nj, nj = n - j := ⟨_, rfl⟩
  obtain ⟨k, hk⟩ : ∃ k, k = tot - i := ⟨_, rfl⟩
  obtain ⟨nt, hnt⟩ : ∃ nt, nt = n - tot := ⟨_, rfl⟩
  have hz1 : ¬ ((i : Int) = (j : Int)) := by omega
  have hz2 : ¬ ((j : Int) = (n : Int)) := by omega
  have hw1 : IntKind.i64.wrap ((i : Int) + (m : Int)) = (im : Int) := by rw [IntKind.wrap_i64]; omega
  have hw2 : IntKind.i64.wrap ((im : Int) + (nj : Int)) = (tot : Int) := by rw [IntKind.wrap_i64]; omega
  have hz3 : ¬ (c : Int) < (tot : Int) := by omega
  have hz4 : (im : Int) ≤ (j : Int) := by omega
  obtain ⟨a0, c0, hs0, -⟩ := so_lh g n c i j (y := (i : Int)) (z := (j : Int)) (by omega) (by omega) rfl rfl
  obtain ⟨a1, c1, hs1, hp1⟩ := so_lk g n c j nj (z := (j : Int)) hnc (by omega) rfl hnj
  have hs2 := so_h g n c i (z := (i : Int)) (by omega) rfl
  have hs2b := so_h g n c tot (z := (tot : Int)) (by omega) rfl
  obtain ⟨a3, c3, hs3, hp3⟩ := so_lk g tot c i k (z := (i : Int)) (by omega) (by omega) rfl hk
  obtain ⟨a4, c4, hs4, hp4⟩ := so_lk g tot c im nj (z := (im : Int)) (by omega) (by omega) rfl (by omega)
  obtain ⟨a5, c5, hs5, hp5⟩ := so_lk g n c tot nt (z := (tot : Int)) (by omega) (by omega) rfl hnt
  have hXl := HX.out
  have hvl := HV.out.len
  have hVt : (bv V).take m = bv V := List.take_of_length_le (by rw [bv_length]; omega)
  obtain ⟨W1, hr1, B1, G1⟩ := cp_ty (W := w.drew) (dc := c3) (k := m) (lo := i) HB.out hp3 (HV.out.keep (Below.refl _ _).drew).srv (by rw [bv_length]; exact hvl) (by rw [hVt]; exact bv_one V) (by rw [Nat.min_def]; split <;> omega) (by omega)
  rw [hVt] at B1
  have hl1 : (pat X i (bv V)).length = c := by rw [pat_length (by rw [bv_length]; omega)]; exact hXl
  have hSl : (((pat X i (bv V)).drop j).take nj).take nj = (X.take n).drop j := by
    rw [List.take_take, Nat.min_self, pat_high (by rw [bv_length]; omega) (by rw [bv_length]; omega), hnj, ← List.drop_take]
  have hSn : ((X.take n).drop j).length = nj := by rw [List.length_drop, List.length_take]; omega
  obtain ⟨W2, hr2, B2, G2⟩ := cp_ty (W := W1.drew) (dc := c4) (k := nj) (u := .slice (some a1) nj c1) (m := nj) B1 hp4 (srv_pt (W := W1.drew) B1 hp1) (by rw [List.length_take, List.length_drop]; omega) (by rw [hSl, HT.out, ← bv_drop]; exact bv_one _) (by rw [Nat.min_self]) (by rw [hl1]; omega)
  rw [hSl] at B2
  have hl2 : (pat (pat X i (bv V)) im ((X.take n).drop j)).length = c := by rw [pat_length (by rw [hl1]; omega)]; exact hl1
  obtain ⟨W3, hr3, B3, G3⟩ := cl_ty (c := c5) B2 hp5 (by omega)
  have HO : Hid (W3.ownsRow base 5 1 (.slice (some ⟨g, 0, none⟩) tot c) tot (bv (T.take i ++ V ++ T.drop j))) := by
    refine own_blk B3 hg ?_ hroom hc ?_
    · rw [pat_length (by rw [List.length_replicate]; omega)]; exact hl2
    · rw [pat_low (Nat.le_refl _) (by omega), show tot = im + nj by omega, pat_take hSn (by omega), him, pat_take (by rw [bv_length]; exact hvl) (by omega), bv_append, bv_append, bv_take, bv_drop, ← HT.out, List.take_take, show min i n = i by omega]
  have HG : Hid (w.grownBy W3 (some g)) := (grown_some (grown_drew w) _).trans (G1.trans ((grown_some (grown_drew W1) _).trans (G2.trans G3)))
  have HR2 := Hid.mk' hr2
  clear hVt B1 G1 B2 G2 B3 G3 hSl hSn hXl hvl hr2 hp1 hp3 hp4 hp5 HB HX HT HV hl1 hl2 hk him hnj hnt hroom hij hjn hnc htot hlow hc63 hc hg
  go_enter Tryz.func95, Tryz.ntmps95
  go_wp2_with fail
  go_region
  go_wp2_with fail
  go_region_law (refine st_copy rfl _ _ rfl _ _ (by simp [Act.eval, Act.put]) (by simp [Act.eval, Act.put]) HR2.out ?_)
  go_wp2
  go_ret
  exact ⟨_, rfl, HO.out, HG.out, .inl rfl⟩
set_option maxHeartbeats 4000000 in
/-- in place, longer than what is taken out -/
theorem rep_high (base g n c i j : Nat) (T : List UInt8) (X : List Value) (va : Addr) (m vc tot : Nat) (V : List UInt8) (w : World) (HB : Hid (Blk w g 5 X.toArray)) (HX : Hid (X.length = c)) (HT : Hid (X.take n = bv T)) (HV : Hid (Tx w (some va) m vc V)) (hij : i < j) (hjn : j < n) (hnc : n ≤ c) (hc : c ≤ maxLen) (htot : tot = i + m + (n - j)) (hroom : tot ≤ c) (hhigh : j < i + m) (hg : base ≤ g) (HA : Hid (va.block ≠ g)) :
    Calls Tryz.prog 95 #[.slice (some ⟨g, 0, none⟩) n c, .int .i64 (i : Int), .int .i64 (j : Int), .slice (some va) m vc] w fun e w' => RepP base (.slice (some ⟨g, 0, none⟩) n c) tot (T.take i ++ V ++ T.drop j) w e w' := by
  have hc63 : c ≤ 9223372036854775807 := by unfold maxLen at hc; omega
  obtain ⟨im, him⟩ : ∃ im, im = i + m := ⟨_, rfl⟩
  obtain ⟨nj, hnj⟩ : ∃ nj, nj = n - j := ⟨_, rfl⟩
  obtain ⟨k, hk⟩ : ∃ k, k = tot - i := ⟨_, rfl⟩
  have hz1 : ¬ ((i : Int) = (j : Int)) := by omega
  have hz2 : ¬ ((j : Int) = (n : Int)) := by omega
  have hw1 : IntKind.i64.wrap ((i : Int) + (m : Int)) = (im : Int) := by rw [IntKind.wrap_i64]; omega
  have hw2 : IntKind.i64.wrap ((im : Int) + (nj : Int)) = (tot : Int) := by rw [IntKind.wrap_i64]; omega
  have hz3 : ¬ (c : Int) < (tot : Int) := by omega
  have hz4 : ¬ (im : Int) ≤ (j : Int) := by omega
  obtain ⟨a0, c0, hs0, -⟩ := so_lh g n c i j (y := (i : Int)) (z := (j : Int)) (by omega) (by omega) rfl rfl
  obtain ⟨a1, c1, hs1, hp1⟩ := so_lk g n c j nj (z := (j : Int)) hnc (by omega) rfl hnj
  have hs2 := so_h g n c i (z := (i : Int)) (by omega) rfl
  have hs2b := so_h g n c tot (z := (tot : Int)) (by omega) rfl
  obtain ⟨a3, c3, hs3, hp3⟩ := so_lk g tot c i k (z := (i : Int)) (by omega) (by omega) rfl hk
  obtain ⟨a4, c4, hs4, hp4⟩ := so_lk g tot c im nj (z := (im : Int)) (by omega) (by omega) rfl (by omega)
  have hXl := HX.out
  have hvl := HV.out.len
  have hVt : (bv V).take m = bv V := List.take_of_length_le (by rw [bv_length]; omega)
  obtain ⟨va', u, e1, hcell⟩ := HV.out.ne (by omega)
  obtain rfl : va = va' := by simpa using e1
  have hov := ovl_own (W := w.drew) (m := m) (c := vc) (dc := c4) HB.out hp4 hcell HA.out
  have hSl : ((X.drop j).take nj).take nj = (X.take n).drop j := by
    rw [List.take_take, Nat.min_self, hnj, ← List.drop_take]
  have hSn : ((X.take n).drop j).length = nj := by rw [List.length_drop, List.length_take]; omega
  obtain ⟨W1, hr1, B1, G1⟩ := cp_ty (W := w.drew.drew) (dc := c4) (k := nj) (u := .slice (some a1) nj c1) (m := nj) HB.out hp4 (srv_pt (W := w.drew.drew) HB.out hp1) (by rw [List.length_take, List.length_drop]; omega) (by rw [hSl, HT.out, ← bv_drop]; exact bv_one _) (by rw [Nat.min_self]) (by omega)
  rw [hSl] at B1
  have hl1 : (pat X im ((X.take n).drop j)).length = c := by rw [pat_length (by omega)]; exact hXl
  have hV1 : Tx W1 (some va) m vc V := (HV.out.keep ((Below.refl _ w).drew.drew)).grown G1 (by intro _ a ha; injection ha with ha; subst ha; exact fun e => HA.out (Option.some.inj e))
  obtain ⟨W2, hr2, B2, G2⟩ := cp_ty (W := W1) (dc := c3) (k := m) (lo := i) B1 hp3 hV1.srv (by rw [bv_length]; exact hvl) (by rw [hVt]; exact bv_one V) (by rw [Nat.min_def]; split <;> omega) (by omega)
  rw [hVt] at B2
  have HO : Hid (W2.ownsRow base 5 1 (.slice (some ⟨g, 0, none⟩) tot c) tot (bv (T.take i ++ V ++ T.drop j))) := by
    refine own_blk B2 hg ?_ hroom hc ?_
    · rw [pat_length (by rw [hl1, bv_length]; omega)]; exact hl1
    · have h9 := ins_list (X := X) (V := bv V) (i := i) (j := j) (n := n) (m := m) (by omega) (by omega) (by rw [bv_length]; exact hvl) (by omega) (by omega) (S := (X.take n).drop j) rfl
      rw [him, show tot = n - (j - i) + m by omega, h9, HT.out, bv_append, bv_append, bv_take, bv_drop]
  have HG : Hid (w.grownBy W2 (some g)) := (grown_some ((grown_drew w).trans (grown_drew w.drew)) _).trans (G1.trans G2)
  have HR1 := Hid.mk' hr1
  have HOV := Hid.mk' hov
  clear hVt B1 G1 B2 G2 hSl hSn hXl hvl hr1 hp1 hp3 hp4 HB HX HT HV hl1 hk him hnj hroom hij hjn hnc htot hhigh hc63 hc hg hov hcell hV1
  go_enter Tryz.func95, Tryz.ntmps95
  go_wp2_with fail
  go_region
  go_wp2_with (simp only [HOV.out])
  go_region_law (refine st_copy rfl _ _ rfl _ _ (by simp [Act.eval, Act.put]) (by simp [Act.eval, Act.put]) HR1.out ?_)
  go_wp2
  go_ret
  exact ⟨_, rfl, HO.out, HG.out, .inl rfl⟩
theorem replace_any (base : Nat) (v : Value) (n i j : Nat) (T : List UInt8) (vo : Option Addr) (m vc tot : Nat) (V : List UInt8) (w : World) (H : Hid (w.ownsRow base 5 1 v n (bv T))) (HV : Hid (Tx w vo m vc V)) (HA : Hid (0 < m → ∀ a, vo = some a → a.block < base)) (hij : i ≤ j) (hjn : j ≤ n) (htot : tot = i + m + (n - j)) (hn : n ≤ 150000000000000) (hm2 : m ≤ 140737488355328) (hb : tot ≤ 150000000000000) (hbase : base ≤ w.heap.size) :
    Calls Tryz.prog 95 #[v, .int .i64 (i : Int), .int .i64 (j : Int), .slice vo m vc] w fun e w' => RepP base v tot (T.take i ++ V ++ T.drop j) w e w' := by
  have hTl : T.length = n := by have := H.out.1; rw [bv_length] at this; omega
  have hvl := HV.out.len
  by_cases h0 : i = j
  · subst h0
    have := rep_ins base v n i T vo m vc V w H HV HA hjn hm2 (by omega) hbase
    rw [show tot = n + m by omega]
    exact this
  · obtain ⟨g, c, X, rfl, hg, hB, hX, hnc, hc, hT⟩ := blk_own H.out (by omega)
    by_cases h1 : j = n
    · subst h1
      have e : T.take i ++ V ++ T.drop j = T.take i ++ V := by rw [List.drop_eq_nil_of_le (by omega), List.append_nil]
      rw [e, show tot = i + m by omega]
      by_cases hroom : i + m ≤ c
      · exact rep_endr base g j c i T X vo m vc V w hB hX hT HV (by omega) hnc hroom hc hg
      · exact rep_endg base g j c i T X vo m vc V w hB hX hT HV (by omega) hnc (by omega) hc hg hm2 (by omega) hbase
    · by_cases hroom : tot ≤ c
      · by_cases hlow : i + m ≤ j
        · exact rep_low base g n c i j T X vo m vc tot V w hB hX hT HV (by omega) (by omega) hnc hc htot hroom hlow hg
        · obtain ⟨va, u, rfl, hcell⟩ := HV.out.ne (by omega)
          exact rep_high base g n c i j T X va m vc tot V w hB hX hT HV (by omega) (by omega) hnc hc htot hroom (by omega) hg (by have := HA.out (by omega) va rfl; unfold Hid; omega)
      · obtain ⟨va, u, rfl, hcell⟩ := HV.out.ne (by omega)
        exact rep_grow base g n c i j T X va m vc tot V w hB hX hT HV (by omega) (by omega) hnc htot (by omega) hb hbase
end Go.Proofs.YtppefcnopkmhbaaGreatDoor

namespace Go.Proofs.YtppefcnopkmhbaaGreatDoor

/-- an edit -/
structure Ed where
  a : Int
  O : List UInt8
  N : List UInt8
theorem Ed.ext' {x y : Ed} (h1 : x.a = y.a) (h2 : x.O = y.O) (h3 : x.N = y.N) : x = y := by cases x; cases y; simp_all
/-- does the edit fit the text? -/
def fitB (T : List UInt8) (d : Ed) : Bool := decide (0 ≤ d.a) && decide (d.a ≤ (T.length : Int)) && ((T.drop d.a.toNat).take d.O.length == d.O)
theorem fitB_iff {T : List UInt8} {d : Ed} : fitB T d = true ↔ ∃ p : Nat, d.a = (p : Int) ∧ p ≤ T.length ∧ (T.drop p).take d.O.length = d.O := by
  unfold fitB
  simp only [Bool.and_eq_true, decide_eq_true_eq, beq_iff_eq]
  constructor
  · rintro ⟨⟨h1, h2⟩, h3⟩
    exact ⟨d.a.toNat, by omega, by omega, h3⟩
  · rintro ⟨p, h1, h2, h3⟩
    refine ⟨⟨by omega, by omega⟩, ?_⟩
    rw [h1]; exact h3
theorem fit_len {T : List UInt8} {p : Nat} {O : List UInt8} (hp : p ≤ T.length) (h : (T.drop p).take O.length = O) : p + O.length ≤ T.length := by
  have := congrArg List.length h
  rw [List.length_take, List.length_drop] at this
  omega
/-- the text behind an edit -/
def stp (T : List UInt8) (d : Ed) : List UInt8 := T.take d.a.toNat ++ d.N ++ T.drop (d.a.toNat + d.O.length)
/-- the text behind edits -/
def app : List UInt8 → List Ed → Option (List UInt8)
  | T, [] => some T
  | T, d :: D => if fitB T d then app (stp T d) D else none
theorem app_append (T : List UInt8) (A B : List Ed) : app T (A ++ B) = (app T A).bind fun U => app U B := by
  induction A generalizing T with
  | nil => rfl
  | cons d A ih =>
    simp only [List.cons_append, app]
    split
    · exact ih _
    · rfl
theorem app_snoc {T U : List UInt8} {D : List Ed} (h : app T D = some U) (d : Ed) : app T (D ++ [d]) = if fitB U d then some (stp U d) else none := by
  rw [app_append, h]
  rfl
theorem stp_len {T : List UInt8} {d : Ed} (h : fitB T d = true) : (stp T d).length + d.O.length = T.length + d.N.length := by
  obtain ⟨p, h1, h2, h3⟩ := fitB_iff.1 h
  have := fit_len h2 h3
  unfold stp
  simp only [List.length_append, List.length_take, List.length_drop]
  omega
/-- how much is added -/
def nsum (D : List Ed) : Nat := (D.map fun d => d.N.length).sum
def osum (D : List Ed) : Nat := (D.map fun d => d.O.length).sum
theorem app_len {T U : List UInt8} {D : List Ed} (h : app T D = some U) : U.length + osum D = T.length + nsum D := by
  induction D generalizing T with
  | nil => simp [app] at h; subst h; simp [osum, nsum]
  | cons d D ih =>
    simp only [app] at h
    split at h
    · rename_i hf
      have h1 := ih h
      have h2 := stp_len hf
      simp only [osum, nsum, List.map_cons, List.sum_cons] at h1 ⊢
      omega
    · cases h
/-- how many bytes two lists begin with in common -/
def cb : List UInt8 → List UInt8 → Nat
  | x :: a, y :: b => if x = y then cb a b + 1 else 0
  | [], _ => 0
  | _ :: _, [] => 0
/-- how many they end with in common -/
def ce (a b : List UInt8) : Nat := cb a.reverse b.reverse
end Go.Proofs.YtppefcnopkmhbaaGreatDoor
