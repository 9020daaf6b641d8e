/- slices.Insert of bytes, walked. -/
import Derived.Test.YthklmdnamkjgmaaIns
namespace Go.Proofs.Ythklmdnamkjgmaa
open Go.RowKit

set_option maxRecDepth 8000
set_option maxHeartbeats 4000000 in
/-- nothing is put in -/
theorem ins_none (base : Nat) (ao : Option Addr) (n c i : Nat) (T : List UInt8) (vo : Option Addr) (vc : Nat) (w : World) (H : Hid (w.ownsRow base 5 1 (.slice ao n c) n (bv T))) (hb : n ≤ 150000000000000) (hi : i ≤ n) :
    Calls Try.prog 39 #[.slice ao n c, .int .i64 (i : Int), .slice vo 0 vc] w fun e w' => RepP base (.slice ao n c) n T w e w' := by
  obtain ⟨ao', c', e0, hT⟩ := own_tx H.out hb
  simp at e0
  obtain ⟨rfl, rfl⟩ := e0
  obtain ⟨a1, c1, hs1, -⟩ := sl_l hT (lo := i) (z := (i : Int)) hi rfl
  clear hT
  go_enter Try.func39, Try.ntmps39
  go_wp2
  go_ret
  exact ⟨_, rfl, H.out, ⟨rfl, rfl, rfl, Nat.le_refl _, fun _ _ _ => rfl⟩, .inl rfl⟩
set_option maxHeartbeats 4000000 in
/-- put in behind the last byte -/
theorem ins_end (base : Nat) (ao : Option Addr) (n c : Nat) (T : List UInt8) (vo : Option Addr) (m vc : Nat) (V : List UInt8) (w : World) (H : Hid (w.ownsRow base 5 1 (.slice ao n c) n (bv T))) (HV : Hid (Tx w vo m vc V)) (hm : 0 < m) (hm2 : m ≤ 140737488355328) (hb : n + m ≤ 150000000000000) (hbase : base ≤ w.heap.size) :
    Calls Try.prog 39 #[.slice ao n c, .int .i64 (n : Int), .slice vo m vc] w fun e w' => RepP base (.slice ao n c) (n + m) (T ++ V) w e w' := by
  obtain ⟨ao', c', e0, hT⟩ := own_tx H.out (by omega)
  simp at e0
  obtain ⟨rfl, rfl⟩ := e0
  obtain ⟨a1, c1, hs1, -⟩ := sl_l hT (lo := n) (z := (n : Int)) (Nat.le_refl _) rfl
  have hz1 : ¬ ((m : Int) = 0) := by omega
  have hvl := Hid.mk' HV.out.len
  clear hT
  obtain ⟨v', w', hr, h2, h3, h4⟩ := run_bg 22 base (.slice ao n c) n (bv T) H.out (.slice vo m vc) m (bv V) HV.out.srv (by rw [bv_length]; exact hvl.out) (bv_one V) hb (.inl hm2) hbase
  rw [← bv_append] at h2
  have H2 := Hid.mk' h2
  have H3 := Hid.mk' h3
  have H4 := Hid.mk' h4
  have HR : Hid (∀ ty, (Builtin.append_ #[22, 22] ty #[.slice ao n c, .slice vo m vc]).run Try.prog w = .ok v' w') := fun ty => hr
  clear h2 h3 h4 hr
  go_enter Try.func39, Try.ntmps39
  go_wp2_with (at_builtin; refine wl_app rfl 22 _ _ rfl _ _ rfl rfl HR.out ?_)
  go_ret
  exact ⟨_, rfl, H2.out, H3.out, H4.out⟩
set_option maxHeartbeats 4000000 in
/-- put in where there is room -/
theorem ins_room (base g n c i : Nat) (T : List UInt8) (X : List Value) (va : Addr) (m vc : Nat) (V : List UInt8) (w : World) (HB : Hid (Blk w g 5 X.toArray)) (HX : Hid (X.length = c)) (HT : Hid (X.take n = bv T)) (HV : Hid (Tx w (some va) m vc V)) (hm : 0 < m) (hi : i < n) (hroom : n + m ≤ c) (hg : base ≤ g) (hc : c ≤ maxLen) (HA : Hid (va.block ≠ g)) :
    Calls Try.prog 39 #[.slice (some ⟨g, 0, none⟩) n c, .int .i64 (i : Int), .slice (some va) m vc] w fun e w' => RepP base (.slice (some ⟨g, 0, none⟩) n c) (n + m) (T.take i ++ V ++ T.drop i) w e w' := by
  have hc63 : c ≤ 9223372036854775807 := by unfold maxLen at hc; omega
  obtain ⟨nm, hnm⟩ : ∃ nm, nm = n + m := ⟨_, rfl⟩
  obtain ⟨im, him⟩ : ∃ im, im = i + m := ⟨_, rfl⟩
  have hz1 : ¬ ((m : Int) = 0) := by omega
  have hz2 : ¬ ((i : Int) = (n : Int)) := by omega
  have hw1 : IntKind.i64.wrap ((n : Int) + (m : Int)) = (nm : Int) := by rw [IntKind.wrap_i64]; omega
  have hw2 : IntKind.i64.wrap ((i : Int) + (m : Int)) = (im : Int) := by rw [IntKind.wrap_i64]; omega
  have hz3 : ¬ ((c : Int) < (nm : Int)) := by omega
  obtain ⟨a1, c1, hs1, -⟩ := so_l g n c i (z := (i : Int)) (by omega) (by omega) rfl
  have hs2 := so_h g n c nm (z := (nm : Int)) (by omega) rfl
  obtain ⟨a3, c3, hs3, hp3⟩ := so_l g nm c im (z := (im : Int)) (by omega) (by omega) rfl
  obtain ⟨a4, c4, hs4, hp4⟩ := so_l g nm c i (z := (i : Int)) (by omega) (by omega) rfl
  obtain ⟨va', u, e1, hcell⟩ := HV.out.ne hm
  obtain rfl : va = va' := by simpa using e1
  have hov := ovl_own2 (m := m) (c := vc) (dc := c3) HB.out hp3 hcell HA.out
  have hvl := HV.out.len
  have hXl := HX.out
  have hVt : (bv V).take m = bv V := List.take_of_length_le (by rw [bv_length]; omega)
  have hSl : ((X.drop i).take (nm - i)).take (n - i) = (X.take n).drop i := by
    rw [List.take_take, show min (n - i) (nm - i) = n - i by omega, ← List.drop_take]
  obtain ⟨W1, hr1, B1, G1⟩ := cp_ty (W := w.drew) (dc := c3) (k := n - i) (u := .slice (some a4) (nm - i) c4) (m := nm - i) HB.out hp3 (srv_pt (W := w.drew) HB.out hp4) (by rw [List.length_take, List.length_drop]; omega) (by rw [hSl, HT.out, ← bv_drop]; exact bv_one _) (by rw [Nat.min_def]; split <;> omega) (by omega)
  rw [hSl] at B1
  have hV1 : Tx W1 (some va) m vc V := by
    refine ⟨hvl, HV.out.cap, HV.out.big, HV.out.nil, fun a ha j hj => ?_⟩
    obtain rfl : va = a := by simpa using ha
    have h1 := HV.out.cells va rfl j hj
    rw [World.cell?_of_block (w := w) (G1.block _ (lt_of_cell (a := va.add j) h1) (by unfold Addr.add; split <;> (try split) <;> simpa using HA.out))]
    exact h1
  obtain ⟨W2, hr2, B2, G2⟩ := cp_ty (W := W1) (dc := c4) (k := m) (lo := i) B1 hp4 hV1.srv (by rw [bv_length]; exact hvl) (by rw [hVt]; exact bv_one V) (by rw [Nat.min_def]; split <;> omega) (by rw [pat_length (by rw [List.length_drop, List.length_take]; omega)]; omega)
  rw [hVt] at B2
  have HO : Hid (W2.ownsRow base 5 1 (.slice (some ⟨g, 0, none⟩) nm c) (n + m) (bv (T.take i ++ V ++ T.drop i))) := by
    unfold Hid
    rw [← hnm]
    have hl1 : ((X.take n).drop i).length = n - i := by rw [List.length_drop, List.length_take]; omega
    refine own_blk B2 hg ?_ (by omega) hc ?_
    · rw [pat_length (by rw [pat_length (by omega), bv_length]; omega), pat_length (by omega)]; exact hXl
    · have h9 := ins_list (X := X) (V := bv V) (i := i) (j := i) (n := n) (m := m) (Nat.le_refl _) (by omega) (by rw [bv_length]; exact hvl) (by omega) (by omega) (S := (X.take n).drop i) rfl
      rw [him, show nm = n - (i - i) + m by omega, h9, HT.out, bv_append, bv_append, bv_take, bv_drop]
  have HG : Hid (w.grownBy W2 (some g)) := (grown_some (grown_drew w) _).trans (G1.trans G2)
  have HR1 := Hid.mk' hr1
  have HR2 := Hid.mk' hr2
  have HOV := Hid.mk' hov
  clear hVt B1 G1 B2 G2 hV1 hSl hXl hvl hcell hr1 hr2 hp3 hp4 hov hc HB HX HT HV HA
  clear hnm him hroom hi hm hc63
  go_enter Try.func39, Try.ntmps39
  go_wp2_with (simp only [HOV.out])
  go_region_law (refine st_copy rfl _ _ rfl _ _ (by simp [Act.eval, Act.put]) (by simp [Act.eval, Act.put]) HR1.out ?_)
  have hr2 := HR2.out
  go_wp2
  go_ret
  exact ⟨_, rfl, HO.out, HG.out, .inl rfl⟩
end Go.Proofs.Ythklmdnamkjgmaa
