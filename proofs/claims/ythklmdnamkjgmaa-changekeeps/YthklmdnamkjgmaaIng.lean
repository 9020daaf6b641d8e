/- slices.Insert of bytes, into a new row; slices.Insert whole. -/
import Derived.Test.YthklmdnamkjgmaaInw
namespace Go.Proofs.Ythklmdnamkjgmaa
open Go.RowKit

set_option maxRecDepth 8000
theorem grown_new {w W W' : World} {q : Nat} (h : w.grownBy W none) (h2 : W.grownBy W' (some q)) (hq : w.heap.size ≤ q) : w.grownBy W' none :=
  ⟨h2.os.trans h.os, h2.tape.trans h.tape, h2.output.trans h.output, Nat.le_trans h.size h2.size, fun k hk _ => by
    rw [h2.block k (by have := h.size; omega) (by intro e; injection e with e; omega)]
    exact h.block k hk (by simp)⟩
theorem Tx.grown {w W : World} {ao : Option Addr} {n c : Nat} {l : List UInt8} {r : Option Nat} (h : Tx w ao n c l) (hg : w.grownBy W r) (hne : 0 < n → ∀ a, ao = some a → some a.block ≠ r) : Tx W ao n c l :=
  ⟨h.len, h.cap, h.big, h.nil, fun a ha j hj => by
    have h1 := h.cells a ha j hj
    have e : (a.add j).block = a.block := by unfold Addr.add; split <;> (try split) <;> rfl
    rw [World.cell?_of_block (w := w) (hg.block _ (lt_of_cell h1) (by rw [e]; exact hne (by omega) a ha))]
    exact h1⟩
set_option maxHeartbeats 4000000 in
theorem ins_grow (base g n c i : Nat) (T : List UInt8) (X : List Value) (va : Addr) (m vc : Nat) (V : List UInt8) (w : World) (HB : Hid (Blk w g 5 X.toArray)) (HX : Hid (X.length = c)) (HT : Hid (X.take n = bv T)) (HV : Hid (Tx w (some va) m vc V)) (hm : 0 < m) (hi : i < n) (hnc : n ≤ c) (hroom : c < n + m) (hb : n + m ≤ 150000000000000) (hbase : base ≤ w.heap.size) :
    Calls Try.prog 39 #[.slice (some ⟨g, 0, none⟩) n c, .int .i64 (i : Int), .slice (some va) m vc] w fun e w' => RepP base (.slice (some ⟨g, 0, none⟩) n c) (n + m) (T.take i ++ V ++ T.drop i) w e w' := by
  obtain ⟨nm, hnm⟩ : ∃ nm, nm = n + m := ⟨_, rfl⟩
  obtain ⟨im, him⟩ : ∃ im, im = i + m := ⟨_, rfl⟩
  obtain ⟨k, hk⟩ : ∃ k, k = nm - i := ⟨_, rfl⟩
  obtain ⟨q, hq⟩ : ∃ q, q = w.heap.size := ⟨_, rfl⟩
  have hglt := HB.out.lt
  have hz1 : ¬ ((m : Int) = 0) := by omega
  have hz2 : ¬ ((i : Int) = (n : Int)) := by omega
  have hw1 : IntKind.i64.wrap ((n : Int) + (m : Int)) = (nm : Int) := by rw [IntKind.wrap_i64]; omega
  have hw2 : IntKind.i64.wrap ((i : Int) + (m : Int)) = (im : Int) := by rw [IntKind.wrap_i64]; omega
  have hw3 : IntKind.i64.wrap ((nm : Int) - (i : Int)) = (k : Int) := by rw [IntKind.wrap_i64]; omega
  have hz3 : (c : Int) < (nm : Int) := by omega
  obtain ⟨a1, c1, hs1, hp1⟩ := so_l g n c i (z := (i : Int)) (by omega) (by omega) rfl
  have hs2 := so_h g n c i (z := (i : Int)) (by omega) rfl
  have hXl := HX.out
  have hvl := HV.out.len
  have hVt : (bv V).take m = bv V := List.take_of_length_le (by rw [bv_length]; omega)
  obtain ⟨W1, G, hr1, B1, G1, hG1, hG2⟩ := az_ty (z := (k : Int)) HB.out hXl (show i ≤ c by omega) (show nm = i + k by omega) (by omega) rfl (by omega)
  rw [← hq] at hr1 B1
  obtain ⟨a3, c3, hs3, hp3⟩ := so_l q nm G i (z := (i : Int)) (by omega) (by omega) rfl
  obtain ⟨a4, c4, hs4, hp4⟩ := so_l q nm G im (z := (im : Int)) (by omega) (by omega) rfl
  have hV1 : Tx W1 (some va) m vc V := HV.out.grown G1 (fun _ _ _ => by simp)
  have hl1 : (X.take i ++ List.replicate k (Value.int .u8 0) ++ List.replicate (G - nm) (Value.int .u8 0)).length = G := by simp only [List.length_append, List.length_take, List.length_replicate]; omega
  obtain ⟨W2, hr2, B2, G2⟩ := cp_ty (W := W1) (dc := c3) (k := m) (lo := i) B1 hp3 hV1.srv (by rw [bv_length]; exact hvl) (by rw [hVt]; exact bv_one V) (by rw [Nat.min_def]; split <;> omega) (by omega)
  rw [hVt] at B2
  have hl2 : (pat (X.take i ++ List.replicate k (Value.int .u8 0) ++ List.replicate (G - nm) (Value.int .u8 0)) i (bv V)).length = G := by rw [pat_length (by rw [hl1, bv_length]; omega)]; exact hl1
  have X2 : Blk W2 g 5 X.toArray := (HB.out.grown G1 (by simp)).grown G2 (by intro e; injection e with e; omega)
  have hSl : ((X.drop i).take (n - i)).take (n - i) = (X.take n).drop i := by
    rw [List.take_take, Nat.min_self, ← List.drop_take]
  obtain ⟨W3, hr3, B3, G3⟩ := cp_ty (W := W2.drew) (dc := c4) (k := n - i) (u := .slice (some a1) (n - i) c1) (m := n - i) B2 hp4 (srv_pt (W := W2.drew) X2 hp1) (by rw [List.length_take, List.length_drop]; omega) (by rw [hSl, HT.out, ← bv_drop]; exact bv_one _) (by rw [Nat.min_def]; split <;> omega) (by rw [hl2]; omega)
  rw [hSl] at B3
  have hSn : ((X.take n).drop i).length = n - i := by rw [List.length_drop, List.length_take]; omega
  have HO : Hid (W3.ownsRow base 5 1 (.slice (some ⟨q, 0, none⟩) nm G) (n + m) (bv (T.take i ++ V ++ T.drop i))) := by
    unfold Hid
    rw [← hnm]
    refine own_blk B3 (by omega) ?_ hG1 hG2 ?_
    · rw [pat_length (by rw [hl2]; omega)]; exact hl2
    · have h9 := new_list (A := X.take i) (V := bv V) (S := (X.take n).drop i) (i := i) (m := m) (k := k) (G := G - nm) (by rw [List.length_take]; omega) (by rw [bv_length]; exact hvl) (by omega)
      rw [him, show nm = i + k by omega]
      rw [show G - nm = G - (i + k) by omega] at h9
      rw [h9, bv_append, bv_append, bv_take, bv_drop, ← HT.out, List.take_take, show min i n = i by omega]
  have HG : Hid (w.grownBy W3 (some g)) := grown_some (grown_new ((grown_new G1 G2 (by omega)).trans (grown_drew W2)) G3 (by omega)) _
  have HQ : Hid (w.heap.size ≤ q) := by unfold Hid; omega
  have HR1 := Hid.mk' hr1
  have HR2 := Hid.mk' hr2
  have HR3 := Hid.mk' hr3
  clear hVt hglt B1 G1 B2 G2 B3 G3 X2 hV1 hSl hSn hXl hvl hr1 hr2 hr3 hp1 hp3 hp4 HB HX HT HV hl1 hl2 hq hk hG1 hG2 hnm him hroom hi hm hb hbase hnc
  have hr2 := HR2.out
  go_enter Try.func39, Try.ntmps39
  go_wp2_with (at_builtin; refine wl_app rfl 3 _ _ rfl _ _ rfl rfl HR1.out ?_)
  go_region_law (refine st_copy rfl _ _ rfl _ _ (by simp [Act.eval, Act.put]) (by simp [Act.eval, Act.put]) HR3.out ?_)
  go_wp2
  go_ret
  exact ⟨_, rfl, HO.out, HG.out, .inr ⟨q, rfl, HQ.out⟩⟩
end Go.Proofs.Ythklmdnamkjgmaa
