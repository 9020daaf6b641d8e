/- slices.Replace of bytes, up to the last byte. -/
import Derived.Test.YthklmdnamkjgmaaRep
namespace Go.Proofs.Ythklmdnamkjgmaa
open Go.RowKit

set_option maxRecDepth 8000
theorem cl_none {W : World} {c : Nat} {a : Addr} (ty : Nat) : (Builtin.clear_ #[22] ty #[.slice (some a) 0 c]).run Try.prog W = .ok (.tuple #[]) W := by
  simp [Builtin.clear_, run_underlying Try.underlying22]
/-- clear, of something or nothing -/
theorem cl_ty {W : World} {g lo k c : Nat} {X : List Value} {a : Addr} (h : Blk W g 5 X.toArray) (hp : Pt g lo k a) (hX : lo + k ≤ X.length) :
    ∃ W', (∀ ty, (Builtin.clear_ #[22] ty #[.slice (some a) k c]).run Try.prog W = .ok (.tuple #[]) W') ∧ Blk W' g 5 (pat X lo (List.replicate k (Value.int .u8 0))).toArray ∧ W.grownBy W' (some g) := by
  by_cases h0 : k = 0
  · subst h0
    exact ⟨W, fun ty => cl_none ty, by unfold pat; simpa using h, ⟨rfl, rfl, rfl, Nat.le_refl _, fun _ _ _ => rfl⟩⟩
  · obtain ⟨W', hr, h2, h3⟩ := cl_own (c := c) 0 h hp (by omega) hX
    exact ⟨W', fun ty => hr, h2, h3⟩
theorem ap_ty {W : World} {g i c m : Nat} {X : List Value} {u : Value} {news : List Value} (h : Blk W g 5 X.toArray) (hX : X.length = c) (hc : c ≤ maxLen) (hi : i + m ≤ c) (hs : Srv W u m news) (hl : news.length = m) (h1 : ∀ v ∈ news, v.oneCell' = true) :
    ∃ W', (∀ ty, (Builtin.append_ #[22, 22] ty #[.slice (some ⟨g, 0, none⟩) i c, u]).run Try.prog W = .ok (.slice (some ⟨g, 0, none⟩) (i + m) c) W') ∧ Blk W' g 5 (pat X i news).toArray ∧ W.grownBy W' (some g) := by
  obtain ⟨W', hr, h2⟩ := ap_own 0 h hX hc hi hs hl h1
  exact ⟨W', fun ty => hr, h2⟩
theorem pat_take {X V : List Value} {i m : Nat} (hV : V.length = m) (hi : i + m ≤ X.length) : (pat X i V).take (i + m) = X.take i ++ V := by
  unfold pat
  rw [List.take_left' (by rw [List.length_append, List.length_take]; omega)]
theorem pat_low {X V : List Value} {i k : Nat} (hk : k ≤ i) (hi : i ≤ X.length) : (pat X i V).take k = X.take k := by
  unfold pat
  rw [List.append_assoc, List.take_append_of_le_length (by rw [List.length_take]; omega), List.take_take, show min k i = k by omega]
theorem pat_high {X V : List Value} {i k : Nat} (hk : i + V.length ≤ k) (hi : i + V.length ≤ X.length) : (pat X i V).drop k = X.drop k := by
  have e : ∀ (A B : List Value) (k : Nat), A.length ≤ k → (A ++ B).drop k = B.drop (k - A.length) := fun A B k h => by
    rw [List.drop_append, List.drop_eq_nil_of_le h, List.nil_append]
  unfold pat
  rw [e _ _ _ (by rw [List.length_append, List.length_take]; omega), List.drop_drop, List.length_append, List.length_take]
  congr 1; omega
set_option maxHeartbeats 4000000 in
/-- all bytes from i on, into a new row -/
theorem rep_endg (base g n c i : Nat) (T : List UInt8) (X : List Value) (vo : Option Addr) (m vc : Nat) (V : List UInt8) (w : World) (HB : Hid (Blk w g 5 X.toArray)) (HX : Hid (X.length = c)) (HT : Hid (X.take n = bv T)) (HV : Hid (Tx w vo m vc V)) (hi : i < n) (hnc : n ≤ c) (hroom : c < i + m) (hc : c ≤ maxLen) (hg : base ≤ g) (hm2 : m ≤ 140737488355328) (hb : i + m ≤ 150000000000000) (hbase : base ≤ w.heap.size) :
    Calls Try.prog 32 #[.slice (some ⟨g, 0, none⟩) n c, .int .i64 (i : Int), .int .i64 (n : Int), .slice vo m vc] w fun e w' => RepP base (.slice (some ⟨g, 0, none⟩) n c) (i + m) (T.take i ++ V) w e w' := by
  have hz1 : ¬ ((i : Int) = (n : Int)) := by omega
  obtain ⟨a1, c1, hs1, -⟩ := so_lh g n c i n (y := (i : Int)) (z := (n : Int)) (by omega) hnc rfl rfl
  have hs2 := so_h g n c i (z := (i : Int)) (by omega) rfl
  have hvl := HV.out.len
  have hown : w.ownsRow base 5 1 (.slice (some ⟨g, 0, none⟩) i c) i (bv (T.take i)) := own_blk HB.out hg HX.out (by omega) hc (by rw [bv_take, ← HT.out, List.take_take, show min i n = i by omega])
  obtain ⟨v', w', hr, h2, h3, h4⟩ := run_bg 22 base (.slice (some ⟨g, 0, none⟩) i c) i (bv (T.take i)) hown (.slice vo m vc) m (bv V) HV.out.srv (by rw [bv_length]; exact hvl) (bv_one V) hb (.inl hm2) hbase
  rw [← bv_append] at h2
  obtain ⟨ao', c', rfl⟩ := own_shape h2
  obtain ⟨im, him⟩ : ∃ im, im = i + m := ⟨_, rfl⟩
  rw [← him] at h2 hr h4 ⊢
  have hz2 : ¬ ((im : Int) < (n : Int)) := by omega
  have H2 := Hid.mk' h2
  have H3 := Hid.mk' h3
  have H4 := Hid.mk' h4
  have HR : Hid (∀ ty, (Builtin.append_ #[22, 22] ty #[.slice (some ⟨g, 0, none⟩) i c, .slice vo m vc]).run Try.prog w = .ok (.slice ao' im c') w') := fun ty => hr
  clear h2 h3 h4 hr hown hvl HB HX HT HV hi hnc hroom hc hg hm2 hb hbase him
  go_enter Try.func32, Try.ntmps32
  go_wp2_with (at_builtin; refine wl_app rfl 22 _ _ rfl _ _ rfl rfl HR.out ?_)
  go_ret
  exact ⟨_, rfl, H2.out, H3.out, H4.out⟩
set_option maxHeartbeats 4000000 in
/-- all bytes from i on, in place -/
theorem rep_endr (base g n c i : Nat) (T : List UInt8) (X : List Value) (vo : Option Addr) (m vc : Nat) (V : List UInt8) (w : World) (HB : Hid (Blk w g 5 X.toArray)) (HX : Hid (X.length = c)) (HT : Hid (X.take n = bv T)) (HV : Hid (Tx w vo m vc V)) (hi : i < n) (hnc : n ≤ c) (hroom : i + m ≤ c) (hc : c ≤ maxLen) (hg : base ≤ g) :
    Calls Try.prog 32 #[.slice (some ⟨g, 0, none⟩) n c, .int .i64 (i : Int), .int .i64 (n : Int), .slice vo m vc] w fun e w' => RepP base (.slice (some ⟨g, 0, none⟩) n c) (i + m) (T.take i ++ V) w e w' := by
  have hz1 : ¬ ((i : Int) = (n : Int)) := by omega
  obtain ⟨a1, c1, hs1, -⟩ := so_lh g n c i n (y := (i : Int)) (z := (n : Int)) (by omega) hnc rfl rfl
  have hs2 := so_h g n c i (z := (i : Int)) (by omega) rfl
  have hvl := HV.out.len
  have hXl := HX.out
  obtain ⟨W1, hr1, B1, G1⟩ := ap_ty HB.out hXl hc hroom HV.out.srv (by rw [bv_length]; exact hvl) (bv_one V)
  obtain ⟨im, him⟩ : ∃ im, im = i + m := ⟨_, rfl⟩
  have hl1 : (pat X i (bv V)).length = c := by rw [pat_length (by rw [bv_length]; omega)]; exact hXl
  have ht1 : (pat X i (bv V)).take im = bv (T.take i ++ V) := by
    rw [him, pat_take (by rw [bv_length]; exact hvl) (by omega), bv_append, bv_take, ← HT.out, List.take_take, show min i n = i by omega]
  rw [← him] at hr1 ⊢
  by_cases hsh : im < n
  · have hz2 : (im : Int) < (n : Int) := by omega
    obtain ⟨a2, c2, hs3, hp2⟩ := so_lk g n c im (n - im) (z := (im : Int)) hnc (by omega) rfl rfl
    obtain ⟨W2, hr2, B2, G2⟩ := cl_ty (c := c2) B1 hp2 (by omega)
    have HO : Hid (W2.ownsRow base 5 1 (.slice (some ⟨g, 0, none⟩) im c) im (bv (T.take i ++ V))) := by
      refine own_blk B2 hg ?_ (by omega) hc ?_
      · rw [pat_length (by rw [List.length_replicate]; omega)]; exact hl1
      · rw [pat_low (Nat.le_refl _) (by omega)]; exact ht1
    have HG : Hid (w.grownBy W2 (some g)) := G1.trans G2
    have HR := Hid.mk' hr1
    clear hvl HB HX HT HV hi hnc hroom hc hg him hsh hr1 B1 G1 B2 G2 hp2 hl1 ht1 hXl
    go_enter Try.func32, Try.ntmps32
    go_wp2_with (at_builtin; refine wl_app rfl 22 _ _ rfl _ _ rfl rfl HR.out ?_)
    go_ret
    exact ⟨_, rfl, HO.out, HG.out, .inl rfl⟩
  · have hz2 : ¬ (im : Int) < (n : Int) := by omega
    have HO : Hid (W1.ownsRow base 5 1 (.slice (some ⟨g, 0, none⟩) im c) im (bv (T.take i ++ V))) := own_blk B1 hg hl1 (by omega) hc ht1
    have HG := Hid.mk' G1
    have HR := Hid.mk' hr1
    clear hvl HB HX HT HV hi hnc hroom hc hg him hsh hr1 B1 G1 hl1 ht1 hXl
    go_enter Try.func32, Try.ntmps32
    go_wp2_with (at_builtin; refine wl_app rfl 22 _ _ rfl _ _ rfl rfl HR.out ?_)
    go_ret
    exact ⟨_, rfl, HO.out, HG.out, .inl rfl⟩
end Go.Proofs.Ythklmdnamkjgmaa
