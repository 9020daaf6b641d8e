/- slices.Replace of bytes, whole. -/
import Derived.Test.YthklmdnamkjgmaaRep2
namespace Go.Proofs.Ythklmdnamkjgmaa
open Go.RowKit

set_option maxRecDepth 8000
set_option maxHeartbeats 4000000 in
/-- into a new row -/
theorem rep_grow (base g n c i j : Nat) (T : List UInt8) (X : List Value) (va : Addr) (m vc tot : Nat) (V : List UInt8) (w : World) (HB : Hid (Blk w g 5 X.toArray)) (HX : Hid (X.length = c)) (HT : Hid (X.take n = bv T)) (HV : Hid (Tx w (some va) m vc V)) (hij : i < j) (hjn : j < n) (hnc : n ≤ c) (htot : tot = i + m + (n - j)) (hroom : c < tot) (hb : tot ≤ 150000000000000) (hbase : base ≤ w.heap.size) :
    Calls Try.prog 32 #[.slice (some ⟨g, 0, none⟩) n c, .int .i64 (i : Int), .int .i64 (j : Int), .slice (some va) m vc] w fun e w' => RepP base (.slice (some ⟨g, 0, none⟩) n c) tot (T.take i ++ V ++ T.drop j) w e w' := by
  obtain ⟨im, him⟩ : ∃ im, im = i + m := ⟨_, rfl⟩
  obtain ⟨nj, hnj⟩ : ∃ nj, nj = n - j := ⟨_, rfl⟩
  obtain ⟨k, hk⟩ : ∃ k, k = tot - i := ⟨_, rfl⟩
  obtain ⟨q, hq⟩ : ∃ q, q = w.heap.size := ⟨_, rfl⟩
  have hglt := HB.out.lt
  have hz1 : ¬ ((i : Int) = (j : Int)) := by omega
  have hz2 : ¬ ((j : Int) = (n : Int)) := by omega
  have hw1 : IntKind.i64.wrap ((i : Int) + (m : Int)) = (im : Int) := by rw [IntKind.wrap_i64]; omega
  have hw2 : IntKind.i64.wrap ((im : Int) + (nj : Int)) = (tot : Int) := by rw [IntKind.wrap_i64]; omega
  have hw3 : IntKind.i64.wrap ((tot : Int) - (i : Int)) = (k : Int) := by rw [IntKind.wrap_i64]; omega
  have hz3 : (c : Int) < (tot : Int) := by omega
  obtain ⟨a0, c0, hs0, -⟩ := so_lh g n c i j (y := (i : Int)) (z := (j : Int)) (by omega) (by omega) rfl rfl
  obtain ⟨a1, c1, hs1, hp1⟩ := so_lk g n c j nj (z := (j : Int)) hnc (by omega) rfl hnj
  have hs2 := so_h g n c i (z := (i : Int)) (by omega) rfl
  have hXl := HX.out
  have hvl := HV.out.len
  have hVt : (bv V).take m = bv V := List.take_of_length_le (by rw [bv_length]; omega)
  obtain ⟨W1, G, hr1, B1, G1, hG1, hG2⟩ := az_ty (W := w.drew) (z := (k : Int)) HB.out hXl (show i ≤ c by omega) (show tot = i + k by omega) (by omega) rfl (by omega)
  rw [show w.drew.heap.size = q from hq.symm] at hr1 B1
  obtain ⟨a3, c3, hs3, hp3⟩ := so_lk q tot G i k (z := (i : Int)) (by omega) (by omega) rfl hk
  obtain ⟨a4, c4, hs4, hp4⟩ := so_lk q tot G im nj (z := (im : Int)) (by omega) (by omega) rfl (by omega)
  have hV1 : Tx W1 (some va) m vc V := (HV.out.keep (Below.refl _ _).drew).grown G1 (fun _ _ _ => by simp)
  have hl1 : (X.take i ++ List.replicate k (Value.int .u8 0) ++ List.replicate (G - tot) (Value.int .u8 0)).length = G := by simp only [List.length_append, List.length_take, List.length_replicate]; omega
  obtain ⟨W2, hr2, B2, G2⟩ := cp_ty (W := W1) (dc := c3) (k := m) (lo := i) B1 hp3 hV1.srv (by rw [bv_length]; exact hvl) (by rw [hVt]; exact bv_one V) (by rw [Nat.min_def]; split <;> omega) (by omega)
  rw [hVt] at B2
  have hl2 : (pat (X.take i ++ List.replicate k (Value.int .u8 0) ++ List.replicate (G - tot) (Value.int .u8 0)) i (bv V)).length = G := by rw [pat_length (by rw [hl1, bv_length]; omega)]; exact hl1
  have X2 : Blk W2 g 5 X.toArray := (Blk.grown (W := w.drew) HB.out G1 (by simp)).grown G2 (by intro e; injection e with e; omega)
  have hSl : ((X.drop j).take nj).take nj = (X.take n).drop j := by
    rw [List.take_take, Nat.min_self, hnj, ← List.drop_take]
  obtain ⟨W3, hr3, B3, G3⟩ := cp_ty (W := W2.drew) (dc := c4) (k := nj) (u := .slice (some a1) nj c1) (m := nj) B2 hp4 (srv_pt (W := W2.drew) X2 hp1) (by rw [List.length_take, List.length_drop]; omega) (by rw [hSl, HT.out, ← bv_drop]; exact bv_one _) (by rw [Nat.min_self]) (by rw [hl2]; omega)
  rw [hSl] at B3
  have hSn : ((X.take n).drop j).length = nj := by rw [List.length_drop, List.length_take]; omega
  have HO : Hid (W3.ownsRow base 5 1 (.slice (some ⟨q, 0, none⟩) tot G) tot (bv (T.take i ++ V ++ T.drop j))) := by
    refine own_blk B3 (by omega) ?_ hG1 hG2 ?_
    · rw [pat_length (by rw [hl2]; omega)]; exact hl2
    · have h9 := new_list (A := X.take i) (V := bv V) (S := (X.take n).drop j) (i := i) (m := m) (k := k) (G := G - tot) (by rw [List.length_take]; omega) (by rw [bv_length]; exact hvl) (by omega)
      rw [him, show tot = i + k by omega]
      rw [show G - tot = G - (i + k) by omega] at h9
      rw [h9, bv_append, bv_append, bv_take, bv_drop, ← HT.out, List.take_take, show min i n = i by omega]
  have HG : Hid (w.grownBy W3 (some g)) := grown_some (grown_new ((grown_new ((grown_drew w).trans G1) G2 (by omega)).trans (grown_drew W2)) G3 (by omega)) _
  have HQ : Hid (w.heap.size ≤ q) := by unfold Hid; omega
  have HR1 := Hid.mk' hr1
  have HR3 := Hid.mk' hr3
  clear hVt hglt B1 G1 B2 G2 B3 G3 X2 hV1 hSl hSn hXl hvl hr1 hr3 hp1 hp3 hp4 HB HX HT HV hl1 hl2 hq hk hG1 hG2 him hnj hroom hij hjn hb hbase hnc htot
  have hmx : Try.prog.follows .mixedOrders = true := by kernel_rfl
  go_enter Try.func32, Try.ntmps32
  go_wp2_with (at_builtin; refine wl_app rfl 3 _ _ rfl _ _ rfl rfl HR1.out ?_)
  go_region
  go_wp2_with (at_builtin; refine wl_app rfl 3 _ _ rfl _ _ rfl rfl HR1.out ?_)
  go_region_law (refine st_copy rfl _ _ rfl _ _ (by simp [Act.eval, Act.put]) (by simp [Act.eval, Act.put]) HR3.out ?_)
  go_wp2
  go_ret
  exact ⟨_, rfl, HO.out, HG.out, .inr ⟨q, rfl, HQ.out⟩⟩
end Go.Proofs.Ythklmdnamkjgmaa
