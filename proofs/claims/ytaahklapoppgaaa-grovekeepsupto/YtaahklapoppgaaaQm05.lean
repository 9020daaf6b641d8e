/- slices.Replace of bytes, whole. -/
import Derived.Test.YtaahklapoppgaaaQm04
import Derived.Test.YtaahklapoppgaaaQm00
import Derived.Laws.MakeOwn
import Derived.Test.YtaahklapoppgaaaQm02
import Derived.OrdersHeld
namespace Go.Proofs.Ytaahklapoppgaaa
open Go.RowKit

set_option maxRecDepth 8000
set_option maxHeartbeats 4000000 in
/-- into a new row -/
theorem rep_grow (base g n c i j : Nat) (T : List UInt8) (X : List Value) (va : Addr) (m vc tot : Nat) (V : List UInt8) (w : World) (HB : Hid (Blk w g 5 X.toArray)) (HX : Hid (X.length = c)) (HT : Hid (X.take n = bv T)) (HV : Hid (Tx w (some va) m vc V)) (hij : i < j) (hjn : j < n) (hnc : n ≤ c) (htot : tot = i + m + (n - j)) (hroom : c < tot) (hb : tot ≤ 150000000000000) (hbase : base ≤ w.heap.size) :
    Calls Try.prog 65 #[.slice (some ⟨g, 0, none⟩) n c, .int .i64 (i : Int), .int .i64 (j : Int), .slice (some va) m vc] w fun e w' => RepP base (.slice (some ⟨g, 0, none⟩) n c) tot (T.take i ++ V ++ T.drop j) w e w' := by
  obtain ⟨im, him⟩ : ∃ im, im = i + m := ⟨_, rfl⟩
  obtain ⟨nj, hnj⟩ : ∃ nj, nj = n - j := ⟨_, rfl⟩
  obtain ⟨k, hk⟩ : ∃ k, k = tot - i := ⟨_, rfl⟩
  obtain ⟨q, hq⟩ : ∃ q, q = w.heap.size := ⟨_, rfl⟩
  have hglt := HB.out.lt
  have hz1 : ¬ ((i : Int) = (j : Int)) := by omega
  have hz2 : ¬ ((j : Int) = (n : Int)) := by omega
  have hw1 : IntKind.i64.wrap ((i : Int) + (m : Int)) = (im : Int) := by rw [IntKind.wrap_i64]; omega
  have hw2 : IntKind.i64.wrap ((im : Int) + (nj : Int)) = (tot : Int) := by rw [IntKind.wrap_i64]; omega
  have hw3 : IntKind.i64.wrap ((tot : Int) - (i : Int)) = (k : Int) := by rw [IntKind.wrap_i64]; omega
  have hz3 : (c : Int) < (tot : Int) := by omega
  obtain ⟨a0, c0, hs0, -⟩ := so_lh g n c i j (y := (i : Int)) (z := (j : Int)) (by omega) (by omega) rfl rfl
  obtain ⟨a1, c1, hs1, hp1⟩ := so_lk g n c j nj (z := (j : Int)) hnc (by omega) rfl hnj
  have hs2 := so_h g n c i (z := (i : Int)) (by omega) rfl
  have hXl := HX.out
  have hvl := HV.out.len
  have hVt : (bv V).take m = bv V := List.take_of_length_le (by rw [bv_length]; omega)
  obtain ⟨W1, G, hr1, B1, G1, hG1, hG2⟩ := az_ty (W := w.drew) (z := (k : Int)) HB.out hXl (show i ≤ c by omega) (show tot = i + k by omega) (by omega) rfl (by omega)
  rw [show w.drew.heap.size = q from hq.symm] at hr1 B1
  obtain ⟨a3, c3, hs3, hp3⟩ := so_lk q tot G i k (z := (i : Int)) (by omega) (by omega) rfl hk
  obtain ⟨a4, c4, hs4, hp4⟩ := so_lk q tot G im nj (z := (im : Int)) (by omega) (by omega) rfl (by omega)
  have hV1 : Tx W1 (some va) m vc V := (HV.out.keep (Below.refl _ _).drew).grown G1 (fun _ _ _ => by simp)
  have hl1 : (X.take i ++ List.replicate k (Value.int .u8 0) ++ List.replicate (G - tot) (Value.int .u8 0)).length = G := by simp only [List.length_append, List.length_take, List.length_replicate]; omega
  obtain ⟨W2, hr2, B2, G2⟩ := cp_ty (W := W1) (dc := c3) (k := m) (lo := i) B1 hp3 hV1.srv (by rw [bv_length]; exact hvl) (by rw [hVt]; exact bv_one V) (by rw [Nat.min_def]; split <;> omega) (by omega)
  rw [hVt] at B2
  have hl2 : (pat (X.take i ++ List.replicate k (Value.int .u8 0) ++ List.replicate (G - tot) (Value.int .u8 0)) i (bv V)).length = G := by rw [pat_length (by rw [hl1, bv_length]; omega)]; exact hl1
  have X2 : Blk W2 g 5 X.toArray := (Blk.grown (W := w.drew) HB.out G1 (by simp)).grown G2 (by intro e; injection e with e; omega)
  have hSl : ((X.drop j).take nj).take nj = (X.take n).drop j := by
    rw [List.take_take, Nat.min_self, hnj, ← List.drop_take]
  obtain ⟨W3, hr3, B3, G3⟩ := cp_ty (W := W2.drew) (dc := c4) (k := nj) (u := .slice (some a1) nj c1) (m := nj) B2 hp4 (srv_pt (W := W2.drew) X2 hp1) (by rw [List.length_take, List.length_drop]; omega) (by rw [hSl, HT.out, ← bv_drop]; exact bv_one _) (by rw [Nat.min_self]) (by rw [hl2]; omega)
  rw [hSl] at B3
  have hSn : ((X.take n).drop j).length = nj := by rw [List.length_drop, List.length_take]; omega
  have HO : Hid (W3.ownsRow base 5 1 (.slice (some ⟨q, 0, none⟩) tot G) tot (bv (T.take i ++ V ++ T.drop j))) := by
    refine own_blk B3 (by omega) ?_ hG1 hG2 ?_
    · rw [pat_length (by rw [hl2]; omega)]; exact hl2
    · have h9 := new_list (A := X.take i) (V := bv V) (S := (X.take n).drop j) (i := i) (m := m) (k := k) (G := G - tot) (by rw [List.length_take]; omega) (by rw [bv_length]; exact hvl) (by omega)
      rw [him, show tot = i + k by omega]
      rw [show G - tot = G - (i + k) by omega] at h9
      rw [h9, bv_append, bv_append, bv_take, bv_drop, ← HT.out, List.take_take, show min i n = i by omega]
  have HG : Hid (w.grownBy W3 (some g)) := grown_some (grown_new ((grown_new ((grown_drew w).trans G1) G2 (by omega)).trans (grown_drew W2)) G3 (by omega)) _
  have HQ : Hid (w.heap.size ≤ q) := by unfold Hid; omega
  have HR1 := mkH hr1
  have HR3 := mkH hr3
  clear hVt hglt B1 G1 B2 G2 B3 G3 X2 hV1 hSl hSn hXl hvl hr1 hr3 hp1 hp3 hp4 HB HX HT HV hl1 hl2 hq hk hG1 hG2 him hnj hroom hij hjn hb hbase hnc htot
  have hmx : Try.prog.follows .mixedOrders = true := by kernel_rfl
  go_enter Try.func65, Try.ntmps65
  go_wp2_with (at_builtin; refine wl_app rfl 3 _ _ rfl _ _ rfl rfl HR1.out ?_)
  go_region
  go_wp2_with (at_builtin; refine wl_app rfl 3 _ _ rfl _ _ rfl rfl HR1.out ?_)
  go_region_law (refine st_copy rfl _ _ rfl _ _ (by simp [Act.eval, Act.put]) (by simp [Act.eval, Act.put]) HR3.out ?_)
  go_wp2
  go_ret
  exact ⟨_, rfl, HO.out, HG.out, .inr ⟨q, rfl, HQ.out⟩⟩
end Go.Proofs.Ytaahklapoppgaaa

/- slices.Replace of bytes, in place; slices.Replace whole. -/
namespace Go.Proofs.Ytaahklapoppgaaa
open Go.RowKit

set_option maxRecDepth 8000
set_option maxHeartbeats 4000000 in
/-- in place, not longer than what is taken out -/
theorem rep_low (base g n c i j : Nat) (T : List UInt8) (X : List Value) (vo : Option Addr) (m vc tot : Nat) (V : List UInt8) (w : World) (HB : Hid (Blk w g 5 X.toArray)) (HX : Hid (X.length = c)) (HT : Hid (X.take n = bv T)) (HV : Hid (Tx w vo m vc V)) (hij : i < j) (hjn : j < n) (hnc : n ≤ c) (hc : c ≤ maxLen) (htot : tot = i + m + (n - j)) (hroom : tot ≤ c) (hlow : i + m ≤ j) (hg : base ≤ g) :
    Calls Try.prog 65 #[.slice (some ⟨g, 0, none⟩) n c, .int .i64 (i : Int), .int .i64 (j : Int), .slice vo m vc] w fun e w' => RepP base (.slice (some ⟨g, 0, none⟩) n c) tot (T.take i ++ V ++ T.drop j) w e w' := by
  have hc63 : c ≤ 9223372036854775807 := by unfold maxLen at hc; omega
  obtain ⟨im, him⟩ : ∃ im, im = i + m := ⟨_, rfl⟩
  obtain ⟨nj, hnj⟩ : ∃ nj, nj = n - j := ⟨_, rfl⟩
  obtain ⟨k, hk⟩ : ∃ k, k = tot - i := ⟨_, rfl⟩
  obtain ⟨nt, hnt⟩ : ∃ nt, nt = n - tot := ⟨_, rfl⟩
  have hz1 : ¬ ((i : Int) = (j : Int)) := by omega
  have hz2 : ¬ ((j : Int) = (n : Int)) := by omega
  have hw1 : IntKind.i64.wrap ((i : Int) + (m : Int)) = (im : Int) := by rw [IntKind.wrap_i64]; omega
  have hw2 : IntKind.i64.wrap ((im : Int) + (nj : Int)) = (tot : Int) := by rw [IntKind.wrap_i64]; omega
  have hz3 : ¬ (c : Int) < (tot : Int) := by omega
  have hz4 : (im : Int) ≤ (j : Int) := by omega
  obtain ⟨a0, c0, hs0, -⟩ := so_lh g n c i j (y := (i : Int)) (z := (j : Int)) (by omega) (by omega) rfl rfl
  obtain ⟨a1, c1, hs1, hp1⟩ := so_lk g n c j nj (z := (j : Int)) hnc (by omega) rfl hnj
  have hs2 := so_h g n c i (z := (i : Int)) (by omega) rfl
  have hs2b := so_h g n c tot (z := (tot : Int)) (by omega) rfl
  obtain ⟨a3, c3, hs3, hp3⟩ := so_lk g tot c i k (z := (i : Int)) (by omega) (by omega) rfl hk
  obtain ⟨a4, c4, hs4, hp4⟩ := so_lk g tot c im nj (z := (im : Int)) (by omega) (by omega) rfl (by omega)
  obtain ⟨a5, c5, hs5, hp5⟩ := so_lk g n c tot nt (z := (tot : Int)) (by omega) (by omega) rfl hnt
  have hXl := HX.out
  have hvl := HV.out.len
  have hVt : (bv V).take m = bv V := List.take_of_length_le (by rw [bv_length]; omega)
  obtain ⟨W1, hr1, B1, G1⟩ := cp_ty (W := w.drew) (dc := c3) (k := m) (lo := i) HB.out hp3 (HV.out.keep (Below.refl _ _).drew).srv (by rw [bv_length]; exact hvl) (by rw [hVt]; exact bv_one V) (by rw [Nat.min_def]; split <;> omega) (by omega)
  rw [hVt] at B1
  have hl1 : (pat X i (bv V)).length = c := by rw [pat_length (by rw [bv_length]; omega)]; exact hXl
  have hSl : (((pat X i (bv V)).drop j).take nj).take nj = (X.take n).drop j := by
    rw [List.take_take, Nat.min_self, pat_high (by rw [bv_length]; omega) (by rw [bv_length]; omega), hnj, ← List.drop_take]
  have hSn : ((X.take n).drop j).length = nj := by rw [List.length_drop, List.length_take]; omega
  obtain ⟨W2, hr2, B2, G2⟩ := cp_ty (W := W1.drew) (dc := c4) (k := nj) (u := .slice (some a1) nj c1) (m := nj) B1 hp4 (srv_pt (W := W1.drew) B1 hp1) (by rw [List.length_take, List.length_drop]; omega) (by rw [hSl, HT.out, ← bv_drop]; exact bv_one _) (by rw [Nat.min_self]) (by rw [hl1]; omega)
  rw [hSl] at B2
  have hl2 : (pat (pat X i (bv V)) im ((X.take n).drop j)).length = c := by rw [pat_length (by rw [hl1]; omega)]; exact hl1
  obtain ⟨W3, hr3, B3, G3⟩ := cl_ty (c := c5) B2 hp5 (by omega)
  have HO : Hid (W3.ownsRow base 5 1 (.slice (some ⟨g, 0, none⟩) tot c) tot (bv (T.take i ++ V ++ T.drop j))) := by
    refine own_blk B3 hg ?_ hroom hc ?_
    · rw [pat_length (by rw [List.length_replicate]; omega)]; exact hl2
    · rw [pat_low (Nat.le_refl _) (by omega), show tot = im + nj by omega, pat_take hSn (by omega), him, pat_take (by rw [bv_length]; exact hvl) (by omega), bv_append, bv_append, bv_take, bv_drop, ← HT.out, List.take_take, show min i n = i by omega]
  have HG : Hid (w.grownBy W3 (some g)) := (grown_some (grown_drew w) _).trans (G1.trans ((grown_some (grown_drew W1) _).trans (G2.trans G3)))
  have HR2 := mkH hr2
  clear hVt B1 G1 B2 G2 B3 G3 hSl hSn hXl hvl hr2 hp1 hp3 hp4 hp5 HB HX HT HV hl1 hl2 hk him hnj hnt hroom hij hjn hnc htot hlow hc63 hc hg
  go_enter Try.func65, Try.ntmps65
  go_wp2_with fail
  go_region
  go_wp2_with fail
  go_region_law (refine st_copy rfl _ _ rfl _ _ (by simp [Act.eval, Act.put]) (by simp [Act.eval, Act.put]) HR2.out ?_)
  go_wp2
  go_ret
  exact ⟨_, rfl, HO.out, HG.out, .inl rfl⟩
set_option maxHeartbeats 4000000 in
/-- in place, longer than what is taken out -/
theorem rep_high (base g n c i j : Nat) (T : List UInt8) (X : List Value) (va : Addr) (m vc tot : Nat) (V : List UInt8) (w : World) (HB : Hid (Blk w g 5 X.toArray)) (HX : Hid (X.length = c)) (HT : Hid (X.take n = bv T)) (HV : Hid (Tx w (some va) m vc V)) (hij : i < j) (hjn : j < n) (hnc : n ≤ c) (hc : c ≤ maxLen) (htot : tot = i + m + (n - j)) (hroom : tot ≤ c) (hhigh : j < i + m) (hg : base ≤ g) (HA : Hid (va.block ≠ g)) :
    Calls Try.prog 65 #[.slice (some ⟨g, 0, none⟩) n c, .int .i64 (i : Int), .int .i64 (j : Int), .slice (some va) m vc] w fun e w' => RepP base (.slice (some ⟨g, 0, none⟩) n c) tot (T.take i ++ V ++ T.drop j) w e w' := by
  have hc63 : c ≤ 9223372036854775807 := by unfold maxLen at hc; omega
  obtain ⟨im, him⟩ : ∃ im, im = i + m := ⟨_, rfl⟩
  obtain ⟨nj, hnj⟩ : ∃ nj, nj = n - j := ⟨_, rfl⟩
  obtain ⟨k, hk⟩ : ∃ k, k = tot - i := ⟨_, rfl⟩
  have hz1 : ¬ ((i : Int) = (j : Int)) := by omega
  have hz2 : ¬ ((j : Int) = (n : Int)) := by omega
  have hw1 : IntKind.i64.wrap ((i : Int) + (m : Int)) = (im : Int) := by rw [IntKind.wrap_i64]; omega
  have hw2 : IntKind.i64.wrap ((im : Int) + (nj : Int)) = (tot : Int) := by rw [IntKind.wrap_i64]; omega
  have hz3 : ¬ (c : Int) < (tot : Int) := by omega
  have hz4 : ¬ (im : Int) ≤ (j : Int) := by omega
  obtain ⟨a0, c0, hs0, -⟩ := so_lh g n c i j (y := (i : Int)) (z := (j : Int)) (by omega) (by omega) rfl rfl
  obtain ⟨a1, c1, hs1, hp1⟩ := so_lk g n c j nj (z := (j : Int)) hnc (by omega) rfl hnj
  have hs2 := so_h g n c i (z := (i : Int)) (by omega) rfl
  have hs2b := so_h g n c tot (z := (tot : Int)) (by omega) rfl
  obtain ⟨a3, c3, hs3, hp3⟩ := so_lk g tot c i k (z := (i : Int)) (by omega) (by omega) rfl hk
  obtain ⟨a4, c4, hs4, hp4⟩ := so_lk g tot c im nj (z := (im : Int)) (by omega) (by omega) rfl (by omega)
  have hXl := HX.out
  have hvl := HV.out.len
  have hVt : (bv V).take m = bv V := List.take_of_length_le (by rw [bv_length]; omega)
  obtain ⟨va', u, e1, hcell⟩ := HV.out.ne (by omega)
  obtain rfl : va = va' := by simpa using e1
  have hov := ovl_own (W := w.drew) (m := m) (c := vc) (dc := c4) HB.out hp4 hcell HA.out
  have hSl : ((X.drop j).take nj).take nj = (X.take n).drop j := by
    rw [List.take_take, Nat.min_self, hnj, ← List.drop_take]
  have hSn : ((X.take n).drop j).length = nj := by rw [List.length_drop, List.length_take]; omega
  obtain ⟨W1, hr1, B1, G1⟩ := cp_ty (W := w.drew.drew) (dc := c4) (k := nj) (u := .slice (some a1) nj c1) (m := nj) HB.out hp4 (srv_pt (W := w.drew.drew) HB.out hp1) (by rw [List.length_take, List.length_drop]; omega) (by rw [hSl, HT.out, ← bv_drop]; exact bv_one _) (by rw [Nat.min_self]) (by omega)
  rw [hSl] at B1
  have hl1 : (pat X im ((X.take n).drop j)).length = c := by rw [pat_length (by omega)]; exact hXl
  have hV1 : Tx W1 (some va) m vc V := (HV.out.keep ((Below.refl _ w).drew.drew)).grown G1 (by intro _ a ha; injection ha with ha; subst ha; exact fun e => HA.out (Option.some.inj e))
  obtain ⟨W2, hr2, B2, G2⟩ := cp_ty (W := W1) (dc := c3) (k := m) (lo := i) B1 hp3 hV1.srv (by rw [bv_length]; exact hvl) (by rw [hVt]; exact bv_one V) (by rw [Nat.min_def]; split <;> omega) (by omega)
  rw [hVt] at B2
  have HO : Hid (W2.ownsRow base 5 1 (.slice (some ⟨g, 0, none⟩) tot c) tot (bv (T.take i ++ V ++ T.drop j))) := by
    refine own_blk B2 hg ?_ hroom hc ?_
    · rw [pat_length (by rw [hl1, bv_length]; omega)]; exact hl1
    · have h9 := ins_list (X := X) (V := bv V) (i := i) (j := j) (n := n) (m := m) (by omega) (by omega) (by rw [bv_length]; exact hvl) (by omega) (by omega) (S := (X.take n).drop j) rfl
      rw [him, show tot = n - (j - i) + m by omega, h9, HT.out, bv_append, bv_append, bv_take, bv_drop]
  have HG : Hid (w.grownBy W2 (some g)) := (grown_some ((grown_drew w).trans (grown_drew w.drew)) _).trans (G1.trans G2)
  have HR1 := mkH hr1
  have HOV := mkH hov
  clear hVt B1 G1 B2 G2 hSl hSn hXl hvl hr1 hp1 hp3 hp4 HB HX HT HV hl1 hk him hnj hroom hij hjn hnc htot hhigh hc63 hc hg hov hcell hV1
  go_enter Try.func65, Try.ntmps65
  go_wp2_with fail
  go_region
  go_wp2_with (simp only [HOV.out])
  go_region_law (refine st_copy rfl _ _ rfl _ _ (by simp [Act.eval, Act.put]) (by simp [Act.eval, Act.put]) HR1.out ?_)
  go_wp2
  go_ret
  exact ⟨_, rfl, HO.out, HG.out, .inl rfl⟩
theorem replace_any (base : Nat) (v : Value) (n i j : Nat) (T : List UInt8) (vo : Option Addr) (m vc tot : Nat) (V : List UInt8) (w : World) (H : Hid (w.ownsRow base 5 1 v n (bv T))) (HV : Hid (Tx w vo m vc V)) (HA : Hid (0 < m → ∀ a, vo = some a → a.block < base)) (hij : i ≤ j) (hjn : j ≤ n) (htot : tot = i + m + (n - j)) (hn : n ≤ 150000000000000) (hm2 : m ≤ 140737488355328) (hb : tot ≤ 150000000000000) (hbase : base ≤ w.heap.size) :
    Calls Try.prog 65 #[v, .int .i64 (i : Int), .int .i64 (j : Int), .slice vo m vc] w fun e w' => RepP base v tot (T.take i ++ V ++ T.drop j) w e w' := by
  have hTl : T.length = n := by have := H.out.1; rw [bv_length] at this; omega
  have hvl := HV.out.len
  by_cases h0 : i = j
  · subst h0
    have := rep_ins base v n i T vo m vc V w H HV HA hjn hm2 (by omega) hbase
    rw [show tot = n + m by omega]
    exact this
  · obtain ⟨g, c, X, rfl, hg, hB, hX, hnc, hc, hT⟩ := blk_own H.out (by omega)
    by_cases h1 : j = n
    · subst h1
      have e : T.take i ++ V ++ T.drop j = T.take i ++ V := by rw [List.drop_eq_nil_of_le (by omega), List.append_nil]
      rw [e, show tot = i + m by omega]
      by_cases hroom : i + m ≤ c
      · exact rep_endr base g j c i T X vo m vc V w hB hX hT HV (by omega) hnc hroom hc hg
      · exact rep_endg base g j c i T X vo m vc V w hB hX hT HV (by omega) hnc (by omega) hc hg hm2 (by omega) hbase
    · by_cases hroom : tot ≤ c
      · by_cases hlow : i + m ≤ j
        · exact rep_low base g n c i j T X vo m vc tot V w hB hX hT HV (by omega) (by omega) hnc hc htot hroom hlow hg
        · obtain ⟨va, u, rfl, hcell⟩ := HV.out.ne (by omega)
          exact rep_high base g n c i j T X va m vc tot V w hB hX hT HV (by omega) (by omega) hnc hc htot hroom (by omega) hg (by have := HA.out (by omega) va rfl; unfold Hid; omega)
      · obtain ⟨va, u, rfl, hcell⟩ := HV.out.ne (by omega)
        exact rep_grow base g n c i j T X va m vc tot V w hB hX hT HV (by omega) (by omega) hnc htot (by omega) hb hbase
end Go.Proofs.Ytaahklapoppgaaa

/- Edits in memory, with their texts. -/
namespace Go.Proofs.Ytaahklapoppgaaa
open Go.RowKit

set_option maxRecDepth 8000
/-- an edit as a value, with its texts -/
structure Er where
  a : Int
  p1 : Option Addr
  o : Nat
  c1 : Nat
  O : List UInt8
  p2 : Option Addr
  n : Nat
  c2 : Nat
  N : List UInt8
def Er.cs (r : Er) : Array Value := #[.int .i64 r.a, .slice r.p1 r.o r.c1, .slice r.p2 r.n r.c2]
def Er.d (r : Er) : Ed := ⟨r.a, r.O, r.N⟩
/-- edits in memory -/
def Edr (W : World) (ao : Option Addr) (E : List Er) : Prop := ∀ (k : Nat) (r : Er), E[k]? = some r → ∃ g o, ao = some ⟨g, o, none⟩ ∧ W.cell? ⟨g, o + k * 3, none⟩ = some (.int .i64 r.a) ∧ W.cell? ⟨g, o + k * 3 + 1, none⟩ = some (.slice r.p1 r.o r.c1) ∧ W.cell? ⟨g, o + k * 3 + 2, none⟩ = some (.slice r.p2 r.n r.c2)
theorem Edr.keep {W W' : World} {ao : Option Addr} {E : List Er} (h : Edr W ao E) (hb : Below W.heap.size W W') : Edr W' ao E := fun k r hk => by
  obtain ⟨g, o, h0, h1, h2, h3⟩ := h k r hk
  exact ⟨g, o, h0, cell_keep h1 hb, cell_keep h2 hb, cell_keep h3 hb⟩
/-- the three cells of an edit -/
structure Ed3 (W : World) (g o : Nat) (a : Int) (p1 : Option Addr) (o1 c1 : Nat) (p2 : Option Addr) (n2 c2 : Nat) : Prop where
  e0 : W.cell? ⟨g, o, none⟩ = some (.int .i64 a)
  e1 : W.cell? ⟨g, o + 1, none⟩ = some (.slice p1 o1 c1)
  e2 : W.cell? ⟨g, o + 2, none⟩ = some (.slice p2 n2 c2)
theorem Ed3.keep {W W' : World} {g o o1 c1 n2 c2 : Nat} {a : Int} {p1 p2 : Option Addr} (h : Ed3 W g o a p1 o1 c1 p2 n2 c2) (hb : Below W.heap.size W W') : Ed3 W' g o a p1 o1 c1 p2 n2 c2 := ⟨cell_keep h.e0 hb, cell_keep h.e1 hb, cell_keep h.e2 hb⟩
theorem Ed3.lt {W : World} {g o o1 c1 n2 c2 : Nat} {a : Int} {p1 p2 : Option Addr} (h : Ed3 W g o a p1 o1 c1 p2 n2 c2) : g < W.heap.size := lt_of_cell h.e0
theorem Ed3.off {W W' : World} {g o o1 c1 n2 c2 : Nat} {a : Int} {p1 p2 : Option Addr} {r : Option Nat} (h : Ed3 W g o a p1 o1 c1 p2 n2 c2) (hg : W.grownBy W' r) (hne : some g ≠ r) : Ed3 W' g o a p1 o1 c1 p2 n2 c2 := by
  have hb := hg.block g h.lt hne
  exact ⟨by rw [World.cell?_of_block hb]; exact h.e0, by rw [World.cell?_of_block hb]; exact h.e1, by rw [World.cell?_of_block hb]; exact h.e2⟩
theorem Edr.ed3 {W : World} {ao : Option Addr} {E : List Er} {k : Nat} {r : Er} (h : Edr W ao E) (hk : E[k]? = some r) : ∃ g o, ao = some ⟨g, o, none⟩ ∧ Ed3 W g (o + k * 3) r.a r.p1 r.o r.c1 r.p2 r.n r.c2 := by
  obtain ⟨g, o, h0, h1, h2, h3⟩ := h k r hk
  exact ⟨g, o, h0, h1, h2, h3⟩
/-- an edit whose texts lie in memory -/
structure Et (W : World) (r : Er) : Prop where
  t1 : Tx W r.p1 r.o r.c1 r.O
  t2 : Tx W r.p2 r.n r.c2 r.N
  b1 : r.o ≤ 140737488355328
  b2 : r.n ≤ 140737488355328
theorem Et.keep {W W' : World} {r : Er} (h : Et W r) (hb : Below W.heap.size W W') : Et W' r := ⟨h.t1.keep hb, h.t2.keep hb, h.b1, h.b2⟩
/-- edits in memory, with their texts -/
structure Edz (W : World) (ao : Option Addr) (E : List Er) : Prop where
  row : Edr W ao E
  txs : ∀ (k : Nat) (r : Er), E[k]? = some r → Et W r
theorem Edz.keep {W W' : World} {ao : Option Addr} {E : List Er} (h : Edz W ao E) (hb : Below W.heap.size W W') : Edz W' ao E := ⟨h.row.keep hb, fun k r hk => (h.txs k r hk).keep hb⟩
/-- edits as cells -/
def ecs (F : List Er) : List Value := F.flatMap fun r => r.cs.toList
theorem ecs_len (F : List Er) : (ecs F).length = F.length * 3 := by
  induction F with
  | nil => rfl
  | cons r F ih => show (r.cs.toList ++ ecs F).length = _; rw [List.length_append, ih, List.length_cons]; simp [Er.cs]; omega
theorem ecs_snoc (F : List Er) (r : Er) : ecs (F ++ [r]) = ecs F ++ r.cs.toList := by simp [ecs]
theorem ecs_at {F : List Er} {k : Nat} {r : Er} (h : F[k]? = some r) : (ecs F)[k * 3]? = some (.int .i64 r.a) ∧ (ecs F)[k * 3 + 1]? = some (.slice r.p1 r.o r.c1) ∧ (ecs F)[k * 3 + 2]? = some (.slice r.p2 r.n r.c2) := by
  induction F generalizing k with
  | nil => simp at h
  | cons x F ih =>
    cases k with
    | zero => simp at h; subst h; exact ⟨rfl, rfl, rfl⟩
    | succ k =>
      rw [List.getElem?_cons_succ] at h
      obtain ⟨h1, h2, h3⟩ := ih h
      have e : ∀ j, (ecs (x :: F))[(k + 1) * 3 + j]? = (ecs F)[k * 3 + j]? := fun j => by
        show (x.cs.toList ++ ecs F)[(k + 1) * 3 + j]? = _
        rw [List.getElem?_append_right (by simp [Er.cs]; omega)]
        congr 1; simp [Er.cs]; omega
      exact ⟨(e 0).trans h1, (e 1).trans h2, (e 2).trans h3⟩
theorem info38 : (Try.prog.info? 77).map (fun i => (i.zero, i.size, i.bytes)) = some (some (.agg #[.int .i64 0, .slice none 0 0, .slice none 0 0]), 3, 56) := by kernel_rfl
theorem er_one (r : Er) : ∀ u ∈ r.cs.toList, u.oneCell' = true := by
  intro u hu
  simp [Er.cs] at hu
  rcases hu with rfl | rfl | rfl <;> rfl
theorem Edr.srv {W : World} {ao : Option Addr} {n c : Nat} {E : List Er} (h : Edr W ao E) (hn : E.length = n) (hc : ao = none → c = 0) : Srv W (.slice ao n c) n (ecs E) := by
  cases ao with
  | none =>
    cases E with
    | nil => subst hn; rw [hc rfl]; exact .inl ⟨rfl, rfl, rfl⟩
    | cons r E =>
      obtain ⟨g, o, h0, _⟩ := h 0 r rfl
      cases h0
  | some ad =>
    refine .inr ⟨ad, c, rfl, fun j t hj => ?_⟩
    have hl := (List.getElem?_eq_some_iff.1 hj).1
    rw [ecs_len] at hl
    obtain ⟨k, i, rfl, hi⟩ : ∃ k i, j = k * 3 + i ∧ i < 3 := ⟨j / 3, j % 3, by omega, by omega⟩
    obtain ⟨r, hr⟩ : ∃ r, E[k]? = some r := ⟨_, List.getElem?_eq_getElem (by omega)⟩
    obtain ⟨g, o, h0, h1, h2, h3⟩ := h k r hr
    obtain ⟨z1, z2, z3⟩ := ecs_at hr
    have e0 : ad = ⟨g, o, none⟩ := by simpa using h0
    subst e0
    rw [add_none, ← Nat.add_assoc]
    match i, hi, hj with
    | 0, _, hj => rw [Nat.add_zero, z1] at hj; cases hj; exact h1
    | 1, _, hj => rw [z2] at hj; cases hj; exact h2
    | 2, _, hj => rw [z3] at hj; cases hj; exact h3
theorem ecs_one (E : List Er) : ∀ u ∈ ecs E, u.oneCell' = true := by
  intro u hu
  obtain ⟨r, _, hr⟩ := List.mem_flatMap.1 hu
  exact er_one r u hr
theorem ecs_append (A C : List Er) : ecs (A ++ C) = ecs A ++ ecs C := by simp [ecs]
/-- a row of one's own reads as edits -/
theorem own_edr {W : World} {base n : Nat} {v : Value} {E : List Er} (h : W.ownsRow base 77 3 v n (ecs E)) : ∃ ao c, v = .slice ao n c ∧ Edr W ao E ∧ E.length = n := by
  have hl : E.length = n := by have := h.1; rw [ecs_len] at this; omega
  rcases h.2 with ⟨rfl, rfl⟩ | ⟨g, cap, cur, rfl, h1, h2, h3, h4, h5, h6⟩
  · have : E = [] := List.eq_nil_of_length_eq_zero hl
    subst this
    exact ⟨none, 0, rfl, fun k r hk => by simp at hk, rfl⟩
  · refine ⟨_, cap, rfl, fun k r hk => ?_, hl⟩
    have hk' := (List.getElem?_eq_some_iff.1 hk).1
    obtain ⟨z1, z2, z3⟩ := ecs_at hk
    have e : ∀ (j : Nat) (u : Value), j < 3 → (ecs E)[k * 3 + j]? = some u → W.cell? ⟨g, 0 + k * 3 + j, none⟩ = some u := fun j u hj hu => by
      rw [Nat.zero_add, h.cellAt (k * 3 + j) (by omega)]; exact hu
    exact ⟨g, 0, rfl, e 0 _ (by omega) z1, e 1 _ (by omega) z2, e 2 _ (by omega) z3⟩
end Go.Proofs.Ytaahklapoppgaaa

/- Regions that draw their order; edits in memory; Move; the reference: Shift, Move. -/
namespace Go.Proofs.Ytaahklapoppgaaa
open Go.RowKit

set_option maxRecDepth 8000
section
variable {ops : Array Oper} {Q : Exit → Act → World → Prop} {S : World → Prop} {op : Oper} {a : Act} {K : Act → World → Prop} {L M : List Int} {B o : Nat}
theorem yi24 (hw : Region.wanted op (yielded ops a.tmps) = true) (x : Operand) (ho : op.op = .load 41 x) (hx : a.eval x = .pointer (some ⟨B, 0, none⟩)) (hL : L.length = 27) (hS : ∀ w, S w → Blk w B 41 (mk L)) : YieldsIf Try.prog ops S op (.agg (mk L)) a :=
  yieldsIf_load_mid hw 41 x ho B 0 hx (ml L) _ (fun w9 hw => blk_range (pre := []) (mid := ml L) (post := []) (by simpa [mk] using hS w9 hw)) Try.underlying41 rfl (by rw [info24, ml_len, hL])
theorem st24 {w : World} {c : Bool} {E : Prop} (hc : c = true) (x y : Operand) (ho : op.op = .store 41 x y) (hx : a.eval x = .pointer (some ⟨B, 0, none⟩)) (hy : a.eval y = .agg (mk L)) (hL : L.length = 27) (hM : M.length = 27) (h : Blk w B 41 (mk M)) (hr : K (a.put op.dst undef) (put24 w B L)) :
    if c = true then Oper.wp Try.prog op a w K Q else E := by
  rw [if_pos hc]
  have ht : w.there B 0 (mk L).size := by
    have := blk_there (pre := []) (mid := ml M) (post := []) (by simpa [mk] using h)
    rw [ml_len, hM] at this
    rw [mk_size, hL]; exact this
  exact wp_store_mid 41 x y ho B 0 (mk L) hx hy ht (by rw [info24, mk_size, hL]) (all_oneCell_toArray (ml_one L)) (by simpa [put24, mk] using hr)
theorem do24 {w : World} {c : Bool} {E : Prop} (hc : c = true) (x : Operand) (ho : op.op = .load 41 x) (hx : a.eval x = .pointer (some ⟨B, 0, none⟩)) (hL : L.length = 27) (h : Blk w B 41 (mk L)) (hr : K (a.put op.dst (.agg (mk L))) w) :
    if c = true then Oper.wp Try.prog op a w K Q else E := by
  rw [if_pos hc]
  exact wp_load_mid 41 x ho B 0 hx (ml L) _ (blk_range (pre := []) (mid := ml L) (post := []) (by simpa [mk] using h)) Try.underlying41 rfl (by rw [info24, ml_len, hL]) hr
end
theorem grown_put24 (w : World) (B : Nat) (L : List Int) : w.grownBy (put24 w B L) (some B) := grown_setCells _ _ _

def Er.t (r : Er) : Int × Nat × Nat := (r.a, r.o, r.n)
/-- marks behind edits -/
def mvL (L : List Int) (T : List (Int × Nat × Nat)) : List Int := T.foldl (fun L t => shl L t.1 t.2.1 t.2.2) L
theorem mvL_len (L : List Int) (T : List (Int × Nat × Nat)) : (mvL L T).length = L.length := by
  unfold mvL
  induction T generalizing L with
  | nil => rfl
  | cons t T ih => rw [List.foldl_cons, ih, shl_len]
theorem mvL_append (L : List Int) (T U : List (Int × Nat × Nat)) : mvL L (T ++ U) = mvL (mvL L T) U := by unfold mvL; rw [List.foldl_append]
theorem mvL_take {L : List Int} {E : List Er} {i : Nat} {r : Er} (h : E[i]? = some r) : mvL L ((E.take (i + 1)).map Er.t) = shl (mvL L ((E.take i).map Er.t)) r.a r.o r.n := by
  obtain ⟨hi, rfl⟩ := List.getElem?_eq_some_iff.1 h
  rw [List.take_succ_eq_append_getElem hi, List.map_append, mvL_append]
  rfl
set_option maxHeartbeats 4000000 in
theorem move_any (L : List Int) (ao : Option Addr) (n c : Nat) (E : List Er) (w : World) (hL : L.length = 27) (HE : Hid (Edr w ao E)) (hn : E.length = n) (hb : n ≤ 140737488355328) :
    Calls Try.prog 94 #[.agg (mk L), .slice ao n c] w fun e w' => e = .returned (.agg (mk (mvL L (E.map Er.t)))) ∧ Below w.heap.size w w' := by
  have hz := z24
  generalize hW2 : (w.alloc (.cells (mk L) 41)).alloc (.cells (mk zm) 41) = W2
  have BE : Hid (Below w.heap.size w W2) := by subst hW2; exact bAlloc (bAlloc (Below.refl _ _) _) _
  have B1 : Hid (Blk W2 w.heap.size 41 (mk L)) := by subst hW2; exact (Blk.new w 41 _).keep (bAlloc (Below.refl _ _) _)
  have B2 : Hid (Blk W2 (w.heap.size + 1) 41 (mk zm)) := by
    subst hW2
    have := Blk.new (w.alloc (.cells (mk L) 41)) 41 (mk zm)
    rwa [World.size_alloc] at this
  have HN := mkH hn
  clear hn
  go_enter Try.func94, Try.ntmps94
  go_wp2_with fail
  clear hW2
  go_loopg [6, 9] n (fun m x6 x9 wx => ∃ i : Nat, x9 = .int .i64 (i : Int) ∧ i + m = n ∧ ∃ X, X.length = 27 ∧ Hid (X = mvL L ((E.take i).map Er.t)) ∧ Hid (Blk wx w.heap.size 41 (mk X)) ∧ Hid (Blk wx (w.heap.size + 1) 41 (mk zm)) ∧ Hid (Below w.heap.size w wx))
  case atStart => exact ⟨0, rfl, by omega, L, hL, rfl, B1.out, B2.out, BE.out⟩
  case round =>
    obtain ⟨i, rfl, him, X, hX, HX, K1, K2, KB⟩ := hrel
    obtain ⟨go, hgo⟩ : ∃ g, g = gk - 1 := ⟨_, rfl⟩
    clear B1 B2 BE
    by_cases hi : i < n
    · have hi' : (i : Int) < (n : Int) := by omega
      have hi0 : (0 : Int) ≤ (i : Int) := by omega
      obtain ⟨r, hr⟩ : ∃ r, E[i]? = some r := ⟨_, List.getElem?_eq_getElem (by have := HN.out; omega)⟩
      obtain ⟨g, o, rfl, z0, z1, z2⟩ := HE.out i r hr
      have s0 := KB.out.cell (lt_of_cell z0) ▸ z0
      have s1 := KB.out.cell (lt_of_cell z1) ▸ z1
      have s2 := KB.out.cell (lt_of_cell z2) ▸ z2
      have t0 : wr.cell? ⟨g, o + i * 3, none⟩ = some (.int .i64 r.a) := by rw [KB.out.cell (lt_of_cell z0)]; exact z0
      have t1 : wr.cell? ⟨g, o + i * 3 + 1, none⟩ = some (.slice r.p1 r.o r.c1) := by rw [KB.out.cell (lt_of_cell z1)]; exact z1
      have t2 : wr.cell? ⟨g, o + i * 3 + 2, none⟩ = some (.slice r.p2 r.n r.c2) := by rw [KB.out.cell (lt_of_cell z2)]; exact z2
      have HR := mkH hr
      obtain ⟨ra, rp1, ro, rc1, _rO, rp2, rn, rc2, _rN⟩ := r
      dsimp only at t0 t1 t2
      clear s0 s1 s2 z0 z1 z2 hr
      obtain ⟨w1, hw1⟩ : ∃ w1, w1 = wr.alloc (.cells #[.int .i64 ra, .slice rp1 ro rc1, .slice rp2 rn rc2] 77) := ⟨_, rfl⟩
      have B1 : Hid (Below wr.heap.size wr w1) := by unfold Hid; rw [hw1]; exact bAlloc (Below.refl _ _) _
      have Y0 : Hid (Blk w1 wr.heap.size 77 #[.int .i64 ra, .slice rp1 ro rc1, .slice rp2 rn rc2]) := by unfold Hid; rw [hw1]; exact Blk.new _ _ _
      go_upto_region 4 with fail
      rw [← hw1]
      clear hw1 t0 t1 t2
      have y0 : w1.cell? ⟨wr.heap.size, 0, none⟩ = some (.int .i64 ra) := Y0.out.cell rfl
      have y1 : w1.cell? ⟨wr.heap.size, 1, none⟩ = some (.slice rp1 ro rc1) := Y0.out.cell rfl
      have y2 : w1.cell? ⟨wr.heap.size, 2, none⟩ = some (.slice rp2 rn rc2) := Y0.out.cell rfl
      have J1 := mkH (K1.out.keep B1.out)
      have J2 := mkH (K2.out.keep B1.out)
      have JB := mkH (bT KB.out B1.out)
      have C := mkH (shift_any X ra rp1 rp2 ro rc1 rn rc2 w1 hX)
      have HS : Hid (shl X ra ro rn = mvL L ((E.take (i + 1)).map Er.t)) := by unfold Hid; rw [mvL_take HR.out, HX.out]
      have hS : Hid ((shl X ra ro rn).length = 27) := by unfold Hid; rw [shl_len]; exact hX
      generalize shl X ra ro rn = X' at *
      clear K1 K2 KB Y0 B1 HX HR
      go_wp2_with (first | refine wl_load24 (B := w.heap.size) (.tmp 2) rfl rfl rfl hX J1.out ?_ | fail)
      refine C.out.mono ?_
      rintro e w3 ⟨rfl, hb3⟩
      have G1 := mkH (J1.out.keep hb3)
      have G2 := mkH (J2.out.keep hb3)
      have GB := mkH (bT JB.out hb3)
      have hw2 : IntKind.i64.wrap ((i : Int) + 1) = ((i + 1 : Nat) : Int) := by rw [IntKind.wrap_i64]; omega
      clear hb3 J1 J2 JB C y0 y1 y2
      go_wp2_with (refine wl_store24 (B := w.heap.size) (L := X') (.tmp 2) (.tmp 15) rfl rfl rfl rfl hS.out hX G1.out ?_)
      go_roundg go
      case measure => omega
      case rel => exact ⟨i + 1, by go_num, by omega, X', hS.out, HS.out, G1.out.put24 hS.out hX, G2.out.put24_off (by omega) _, below_put24 GB.out (Nat.le_refl _) _⟩
    · have hi' : ¬ (i : Int) < (n : Int) := by omega
      have HF : Hid (X = mvL L (E.map Er.t)) := by
        have h1 := HX.out
        rw [List.take_of_length_le (by have := HN.out; omega)] at h1
        exact h1
      have hlv := mkH (ld24 hX (K2.out.put24 hX rfl))
      clear HX hgo
      go_wp2_with (first | refine wl_load24 (B := w.heap.size) (.tmp 2) rfl rfl rfl hX K1.out ?_ | refine wl_store24 (B := w.heap.size + 1) (.tmp 4) (.tmp 17) rfl rfl rfl rfl hX (by rfl) K2.out ?_)
      exact bodyPost_ret (v := .agg (mk X)) (by simp [results, Try.results94, asAddr, hlv.out]) rfl ⟨by rw [← HF.out], below_put24 KB.out (by omega) _⟩
set_option maxHeartbeats 4000000 in
set_option linter.unusedSimpArgs false in
theorem rshift_any (L : List Int) (a : Int) (p1 p2 : Option Addr) (o c1 n c2 : Nat) (w : World) (hL : L.length = 27) :
    Calls Try.prog 93 #[.agg (mk L), .agg #[.int .i64 a, .slice p1 o c1, .slice p2 n c2]] w fun e w' => e = .returned (.agg (mk (shl L a o n))) ∧ Below w.heap.size w w' := by
  have hz := z24
  generalize hW2 : ((w.alloc (.cells (mk L) 41)).alloc (.cells #[.int .i64 a, .slice p1 o c1, .slice p2 n c2] 77)).alloc (.cells (mk zm) 41) = W2
  have BE : Hid (Below w.heap.size w W2) := by subst hW2; exact bAlloc (bAlloc (bAlloc (Below.refl _ _) _) _) _
  have B1 : Hid (Blk W2 w.heap.size 41 (mk L)) := by subst hW2; exact (Blk.new w 41 _).keep (bAlloc (bAlloc (Below.refl _ _) _) _)
  have B2 : Hid (Blk W2 (w.heap.size + 1) 77 #[.int .i64 a, .slice p1 o c1, .slice p2 n c2]) := by
    subst hW2
    have := (Blk.new (w.alloc (.cells (mk L) 41)) 77 #[.int .i64 a, .slice p1 o c1, .slice p2 n c2]).keep (bAlloc (Below.refl _ _) (.cells (mk zm) 41))
    rwa [World.size_alloc] at this
  have B3 : Hid (Blk W2 (w.heap.size + 1 + 1) 41 (mk zm)) := by
    subst hW2
    have := Blk.new ((w.alloc (.cells (mk L) 41)).alloc (.cells #[.int .i64 a, .slice p1 o c1, .slice p2 n c2] 77)) 41 (mk zm)
    rwa [World.size_alloc, World.size_alloc] at this
  go_enter Try.func93, Try.ntmps93
  go_wp2_with fail
  clear hW2
  go_loopg [5, 6] 27 (fun m x5 x6 wx => ∃ i : Nat, x5 = .int .i64 (i : Int) ∧ i + m = 27 ∧ ∃ X, X.length = 27 ∧ Hid (X = eL (fun x => bhd x a o n) L i) ∧ Hid (Blk wx w.heap.size 41 (mk X)) ∧ Hid (Blk wx (w.heap.size + 1) 77 #[.int .i64 a, .slice p1 o c1, .slice p2 n c2]) ∧ Hid (Blk wx (w.heap.size + 1 + 1) 41 (mk zm)) ∧ Hid (Below w.heap.size w wx))
  case atStart => exact ⟨0, rfl, rfl, L, hL, by rw [eL_zero]; exact rfl, B1.out, B2.out, B3.out, BE.out⟩
  case round =>
    obtain ⟨i, rfl, him, X, hX, HX, K1, K2, K3, KB⟩ := hrel
    obtain ⟨go, hgo⟩ : ∃ g, g = gk - 1 := ⟨_, rfl⟩
    clear B1 B2 B3 BE
    by_cases hi : i < 27
    · have hi' : (i : Int) ≤ 26 := by omega
      obtain ⟨x, hx⟩ : ∃ x, L[i]? = some x := ⟨_, List.getElem?_eq_getElem (by omega)⟩
      have hxX : X[i]? = some x := by rw [HX.out]; exact eL_at _ L i x hx
      have C := mkH (at_any X i x wr hX hxX)
      have HS0 : Hid (X.set i (bhd x a o n) = eL (fun x => bhd x a o n) L (i + 1)) := by unfold Hid; rw [HX.out]; exact eL_set (fun x => bhd x a o n) L i x hx
      have hS0 : Hid ((X.set i (bhd x a o n)).length = 27) := by unfold Hid; simpa using hX
      have C40 := mkH (fun W => rbehind_any x a p1 p2 o c1 n c2 W)
      have C34 := mkH (fun W => with_any X i (bhd x a o n) W hX hi)
      clear hx hxX HX
      go_upto_region 5 with (first | refine wl_load24 (B := w.heap.size) (.tmp 2) rfl rfl rfl hX K1.out ?_ | (go_at_call 88; refine C.out.mono ?_; rintro e w3 ⟨rfl, hb3⟩; have J1 := mkH (K1.out.keep hb3); have J2 := mkH (K2.out.keep hb3); have J3 := mkH (K3.out.keep hb3); have JB := mkH (bT KB.out hb3); clear hb3 K1 K2 K3 KB C))
      generalize bhd x a o n = bx at *
      obtain ⟨X', hX'⟩ : ∃ X', X' = X.set i bx := ⟨_, rfl⟩
      rw [← hX'] at HS0 hS0 C34
      have HS := mkH HS0.out
      have hS := mkH hS0.out
      have XD : Hid (Blk w3.drew w.heap.size 41 (mk X)) := J1.out
      have YD : Hid (Blk w3.drew (w.heap.size + 1) 77 #[.int .i64 a, .slice p1 o c1, .slice p2 n c2]) := J2.out
      have UD : Hid (Blk w3.drew (w.heap.size + 1 + 1) 41 (mk zm)) := J3.out
      have LD : Hid (Below w.heap.size w w3.drew) := JB.out.drew
      clear J1 J2 J3 JB hX' HS0 hS0
      refine wp_region_held (S := fun w' => Blk w' (w.heap.size + 1) 77 #[.int .i64 a, .slice p1 o c1, .slice p2 n c2]) (by kernel_rfl) ?_
      change wpAnyH _ _ _ _ _ _ _ _ (World.drew _)
      generalize w3.drew = V3 at *
      refine tk 1 (.int .i64 (i : Int)) YD.out ?_
      refine tk 2 (.int .i64 x) YD.out ?_
      refine ta 3 (.agg #[.int .i64 a, .slice p1 o c1, .slice p2 n c2]) rfl (Or.inl ⟨by rfl, fun w9 h9 => by have h5 := h9.cell (j := 0) rfl; have h6 := h9.cell (j := 1) rfl; have h7 := h9.cell (j := 2) rfl; go_simp⟩) YD.out ?_
      try simp only [Act.put, jj1, jj2, jj3, jj4, jj5, jj6]
      refine wpAnyH_all (rs := [0, 4]) (by kernel_rfl) (by simp) (AllH.cons rfl (fun K hK => ?_) (AllH.cons rfl (fun K hK => ?_) AllH.nil))
      · skip
        refine do24 rfl (.tmp 2) rfl rfl hX XD.out ?_
        refine hK _ _ ⟨YD.out, ?_⟩
        clear hK K
        try simp only [Act.put, jj1, jj2, jj3, jj4, jj5, jj6]
        refine wpAnyH_all (rs := [4]) (by kernel_rfl) (by simp) (AllH.cons rfl (fun K hK => ?_) AllH.nil)
        go_simp
        refine (C40.out V3).mono ?_
        rintro e w4 ⟨rfl, hb9⟩
        have X4 := mkH (XD.out.keep hb9)
        have Y4 := mkH (YD.out.keep hb9)
        have U4 := mkH (UD.out.keep hb9)
        have L4 := mkH (bT LD.out hb9)
        clear hb9
        dsimp only
        refine hK _ _ ⟨Y4.out, ?_⟩
        clear hK K
        try simp only [Act.put, jj1, jj2, jj3, jj4, jj5, jj6]
        refine wpAnyH_all (rs := [5]) (by kernel_rfl) (by simp) (AllH.cons rfl (fun K hK => ?_) AllH.nil)
        go_simp
        refine (C34.out w4).mono ?_
        rintro e w5 ⟨rfl, hb9⟩
        have X5 := mkH (X4.out.keep hb9)
        have Y5 := mkH (Y4.out.keep hb9)
        have U5 := mkH (U4.out.keep hb9)
        have L5 := mkH (bT L4.out hb9)
        clear hb9
        dsimp only
        refine hK _ _ ⟨Y5.out, ?_⟩
        clear hK K
        try simp only [Act.put, jj1, jj2, jj3, jj4, jj5, jj6]
        refine wpAnyH_all (rs := [6]) (by kernel_rfl) (by simp) (AllH.cons rfl (fun K hK => ?_) AllH.nil)
        refine st24 rfl (.tmp 2) (.tmp 19) rfl rfl rfl hS.out hX X5.out ?_
        have Y6 := mkH (Y5.out.put24_off (B := w.heap.size) (by omega) X')
        refine hK _ _ ⟨Y6.out, ?_⟩
        clear hK K
        try simp only [Act.put, jj1, jj2, jj3, jj4, jj5, jj6]
        refine wpAnyH_done (by kernel_rfl) ?_ _
        go_wp2
        go_roundg go
        case measure => omega
        case rel => exact ⟨i + 1, by go_num, by omega, X', hS.out, HS.out, X5.out.put24 hS.out hX, mkH (Y5.out.put24_off (by omega) _), U5.out.put24_off (by omega) _, below_put24 L5.out (Nat.le_refl _) _⟩
      · skip
        go_simp
        refine (C40.out V3).mono ?_
        rintro e w4 ⟨rfl, hb9⟩
        have X4 := mkH (XD.out.keep hb9)
        have Y4 := mkH (YD.out.keep hb9)
        have U4 := mkH (UD.out.keep hb9)
        have L4 := mkH (bT LD.out hb9)
        clear hb9
        dsimp only
        refine hK _ _ ⟨Y4.out, ?_⟩
        clear hK K
        try simp only [Act.put, jj1, jj2, jj3, jj4, jj5, jj6]
        refine wpAnyH_all (rs := [0]) (by kernel_rfl) (by simp) (AllH.cons rfl (fun K hK => ?_) AllH.nil)
        refine do24 rfl (.tmp 2) rfl rfl hX X4.out ?_
        refine hK _ _ ⟨Y4.out, ?_⟩
        clear hK K
        try simp only [Act.put, jj1, jj2, jj3, jj4, jj5, jj6]
        refine wpAnyH_all (rs := [5]) (by kernel_rfl) (by simp) (AllH.cons rfl (fun K hK => ?_) AllH.nil)
        go_simp
        refine (C34.out w4).mono ?_
        rintro e w5 ⟨rfl, hb9⟩
        have X5 := mkH (X4.out.keep hb9)
        have Y5 := mkH (Y4.out.keep hb9)
        have U5 := mkH (U4.out.keep hb9)
        have L5 := mkH (bT L4.out hb9)
        clear hb9
        dsimp only
        refine hK _ _ ⟨Y5.out, ?_⟩
        clear hK K
        try simp only [Act.put, jj1, jj2, jj3, jj4, jj5, jj6]
        refine wpAnyH_all (rs := [6]) (by kernel_rfl) (by simp) (AllH.cons rfl (fun K hK => ?_) AllH.nil)
        refine st24 rfl (.tmp 2) (.tmp 19) rfl rfl rfl hS.out hX X5.out ?_
        have Y6 := mkH (Y5.out.put24_off (B := w.heap.size) (by omega) X')
        refine hK _ _ ⟨Y6.out, ?_⟩
        clear hK K
        try simp only [Act.put, jj1, jj2, jj3, jj4, jj5, jj6]
        refine wpAnyH_done (by kernel_rfl) ?_ _
        go_wp2
        go_roundg go
        case measure => omega
        case rel => exact ⟨i + 1, by go_num, by omega, X', hS.out, HS.out, X5.out.put24 hS.out hX, mkH (Y5.out.put24_off (by omega) _), U5.out.put24_off (by omega) _, below_put24 L5.out (Nat.le_refl _) _⟩
    · have hi' : ¬ (i : Int) ≤ 26 := by omega
      have HF : Hid (X = shl L a o n) := by
        have h1 := HX.out
        rw [eL_all _ _ _ (by omega)] at h1
        exact h1
      have hlv := mkH (ld24 hX (K3.out.put24 hX rfl))
      clear HX hgo
      go_wp2_with (first | refine wl_load24 (B := w.heap.size) (.tmp 2) rfl rfl rfl hX K1.out ?_ | refine wl_store24 (B := w.heap.size + 1 + 1) (.tmp 4) (.tmp 20) rfl rfl rfl rfl hX (by rfl) K3.out ?_)
      exact bodyPost_ret (v := .agg (mk X)) (by simp [results, Try.results93, asAddr, hlv.out]) rfl ⟨by rw [← HF.out], below_put24 KB.out (by omega) _⟩
end Go.Proofs.Ytaahklapoppgaaa

