/- slices.Replace of bytes, in place; slices.Replace whole. -/
import Derived.Test.YthklmdnamkjgmaaRep3
namespace Go.Proofs.Ythklmdnamkjgmaa
open Go.RowKit

set_option maxRecDepth 8000
set_option maxHeartbeats 4000000 in
/-- in place, not longer than what is taken out -/
theorem rep_low (base g n c i j : Nat) (T : List UInt8) (X : List Value) (vo : Option Addr) (m vc tot : Nat) (V : List UInt8) (w : World) (HB : Hid (Blk w g 5 X.toArray)) (HX : Hid (X.length = c)) (HT : Hid (X.take n = bv T)) (HV : Hid (Tx w vo m vc V)) (hij : i < j) (hjn : j < n) (hnc : n ≤ c) (hc : c ≤ maxLen) (htot : tot = i + m + (n - j)) (hroom : tot ≤ c) (hlow : i + m ≤ j) (hg : base ≤ g) :
    Calls Try.prog 32 #[.slice (some ⟨g, 0, none⟩) n c, .int .i64 (i : Int), .int .i64 (j : Int), .slice vo m vc] w fun e w' => RepP base (.slice (some ⟨g, 0, none⟩) n c) tot (T.take i ++ V ++ T.drop j) w e w' := by
  have hc63 : c ≤ 9223372036854775807 := by unfold maxLen at hc; omega
  obtain ⟨im, him⟩ : ∃ im, im = i + m := ⟨_, rfl⟩
  obtain ⟨nj, hnj⟩ : ∃ nj, nj = n - j := ⟨_, rfl⟩
  obtain ⟨k, hk⟩ : ∃ k, k = tot - i := ⟨_, rfl⟩
  obtain ⟨nt, hnt⟩ : ∃ nt, nt = n - tot := ⟨_, rfl⟩
  have hz1 : ¬ ((i : Int) = (j : Int)) := by omega
  have hz2 : ¬ ((j : Int) = (n : Int)) := by omega
  have hw1 : IntKind.i64.wrap ((i : Int) + (m : Int)) = (im : Int) := by rw [IntKind.wrap_i64]; omega
  have hw2 : IntKind.i64.wrap ((im : Int) + (nj : Int)) = (tot : Int) := by rw [IntKind.wrap_i64]; omega
  have hz3 : ¬ (c : Int) < (tot : Int) := by omega
  have hz4 : (im : Int) ≤ (j : Int) := by omega
  obtain ⟨a0, c0, hs0, -⟩ := so_lh g n c i j (y := (i : Int)) (z := (j : Int)) (by omega) (by omega) rfl rfl
  obtain ⟨a1, c1, hs1, hp1⟩ := so_lk g n c j nj (z := (j : Int)) hnc (by omega) rfl hnj
  have hs2 := so_h g n c i (z := (i : Int)) (by omega) rfl
  have hs2b := so_h g n c tot (z := (tot : Int)) (by omega) rfl
  obtain ⟨a3, c3, hs3, hp3⟩ := so_lk g tot c i k (z := (i : Int)) (by omega) (by omega) rfl hk
  obtain ⟨a4, c4, hs4, hp4⟩ := so_lk g tot c im nj (z := (im : Int)) (by omega) (by omega) rfl (by omega)
  obtain ⟨a5, c5, hs5, hp5⟩ := so_lk g n c tot nt (z := (tot : Int)) (by omega) (by omega) rfl hnt
  have hXl := HX.out
  have hvl := HV.out.len
  have hVt : (bv V).take m = bv V := List.take_of_length_le (by rw [bv_length]; omega)
  obtain ⟨W1, hr1, B1, G1⟩ := cp_ty (W := w.drew) (dc := c3) (k := m) (lo := i) HB.out hp3 (HV.out.keep (Below.refl _ _).drew).srv (by rw [bv_length]; exact hvl) (by rw [hVt]; exact bv_one V) (by rw [Nat.min_def]; split <;> omega) (by omega)
  rw [hVt] at B1
  have hl1 : (pat X i (bv V)).length = c := by rw [pat_length (by rw [bv_length]; omega)]; exact hXl
  have hSl : (((pat X i (bv V)).drop j).take nj).take nj = (X.take n).drop j := by
    rw [List.take_take, Nat.min_self, pat_high (by rw [bv_length]; omega) (by rw [bv_length]; omega), hnj, ← List.drop_take]
  have hSn : ((X.take n).drop j).length = nj := by rw [List.length_drop, List.length_take]; omega
  obtain ⟨W2, hr2, B2, G2⟩ := cp_ty (W := W1.drew) (dc := c4) (k := nj) (u := .slice (some a1) nj c1) (m := nj) B1 hp4 (srv_pt (W := W1.drew) B1 hp1) (by rw [List.length_take, List.length_drop]; omega) (by rw [hSl, HT.out, ← bv_drop]; exact bv_one _) (by rw [Nat.min_self]) (by rw [hl1]; omega)
  rw [hSl] at B2
  have hl2 : (pat (pat X i (bv V)) im ((X.take n).drop j)).length = c := by rw [pat_length (by rw [hl1]; omega)]; exact hl1
  obtain ⟨W3, hr3, B3, G3⟩ := cl_ty (c := c5) B2 hp5 (by omega)
  have HO : Hid (W3.ownsRow base 5 1 (.slice (some ⟨g, 0, none⟩) tot c) tot (bv (T.take i ++ V ++ T.drop j))) := by
    refine own_blk B3 hg ?_ hroom hc ?_
    · rw [pat_length (by rw [List.length_replicate]; omega)]; exact hl2
    · rw [pat_low (Nat.le_refl _) (by omega), show tot = im + nj by omega, pat_take hSn (by omega), him, pat_take (by rw [bv_length]; exact hvl) (by omega), bv_append, bv_append, bv_take, bv_drop, ← HT.out, List.take_take, show min i n = i by omega]
  have HG : Hid (w.grownBy W3 (some g)) := (grown_some (grown_drew w) _).trans (G1.trans ((grown_some (grown_drew W1) _).trans (G2.trans G3)))
  have HR2 := Hid.mk' hr2
  clear hVt B1 G1 B2 G2 B3 G3 hSl hSn hXl hvl hr2 hp1 hp3 hp4 hp5 HB HX HT HV hl1 hl2 hk him hnj hnt hroom hij hjn hnc htot hlow hc63 hc hg
  go_enter Try.func32, Try.ntmps32
  go_wp2_with fail
  go_region
  go_wp2_with fail
  go_region_law (refine st_copy rfl _ _ rfl _ _ (by simp [Act.eval, Act.put]) (by simp [Act.eval, Act.put]) HR2.out ?_)
  go_wp2
  go_ret
  exact ⟨_, rfl, HO.out, HG.out, .inl rfl⟩
set_option maxHeartbeats 4000000 in
/-- in place, longer than what is taken out -/
theorem rep_high (base g n c i j : Nat) (T : List UInt8) (X : List Value) (va : Addr) (m vc tot : Nat) (V : List UInt8) (w : World) (HB : Hid (Blk w g 5 X.toArray)) (HX : Hid (X.length = c)) (HT : Hid (X.take n = bv T)) (HV : Hid (Tx w (some va) m vc V)) (hij : i < j) (hjn : j < n) (hnc : n ≤ c) (hc : c ≤ maxLen) (htot : tot = i + m + (n - j)) (hroom : tot ≤ c) (hhigh : j < i + m) (hg : base ≤ g) (HA : Hid (va.block ≠ g)) :
    Calls Try.prog 32 #[.slice (some ⟨g, 0, none⟩) n c, .int .i64 (i : Int), .int .i64 (j : Int), .slice (some va) m vc] w fun e w' => RepP base (.slice (some ⟨g, 0, none⟩) n c) tot (T.take i ++ V ++ T.drop j) w e w' := by
  have hc63 : c ≤ 9223372036854775807 := by unfold maxLen at hc; omega
  obtain ⟨im, him⟩ : ∃ im, im = i + m := ⟨_, rfl⟩
  obtain ⟨nj, hnj⟩ : ∃ nj, nj = n - j := ⟨_, rfl⟩
  obtain ⟨k, hk⟩ : ∃ k, k = tot - i := ⟨_, rfl⟩
  have hz1 : ¬ ((i : Int) = (j : Int)) := by omega
  have hz2 : ¬ ((j : Int) = (n : Int)) := by omega
  have hw1 : IntKind.i64.wrap ((i : Int) + (m : Int)) = (im : Int) := by rw [IntKind.wrap_i64]; omega
  have hw2 : IntKind.i64.wrap ((im : Int) + (nj : Int)) = (tot : Int) := by rw [IntKind.wrap_i64]; omega
  have hz3 : ¬ (c : Int) < (tot : Int) := by omega
  have hz4 : ¬ (im : Int) ≤ (j : Int) := by omega
  obtain ⟨a0, c0, hs0, -⟩ := so_lh g n c i j (y := (i : Int)) (z := (j : Int)) (by omega) (by omega) rfl rfl
  obtain ⟨a1, c1, hs1, hp1⟩ := so_lk g n c j nj (z := (j : Int)) hnc (by omega) rfl hnj
  have hs2 := so_h g n c i (z := (i : Int)) (by omega) rfl
  have hs2b := so_h g n c tot (z := (tot : Int)) (by omega) rfl
  obtain ⟨a3, c3, hs3, hp3⟩ := so_lk g tot c i k (z := (i : Int)) (by omega) (by omega) rfl hk
  obtain ⟨a4, c4, hs4, hp4⟩ := so_lk g tot c im nj (z := (im : Int)) (by omega) (by omega) rfl (by omega)
  have hXl := HX.out
  have hvl := HV.out.len
  have hVt : (bv V).take m = bv V := List.take_of_length_le (by rw [bv_length]; omega)
  obtain ⟨va', u, e1, hcell⟩ := HV.out.ne (by omega)
  obtain rfl : va = va' := by simpa using e1
  have hov := ovl_own (W := w.drew) (m := m) (c := vc) (dc := c4) HB.out hp4 hcell HA.out
  have hSl : ((X.drop j).take nj).take nj = (X.take n).drop j := by
    rw [List.take_take, Nat.min_self, hnj, ← List.drop_take]
  have hSn : ((X.take n).drop j).length = nj := by rw [List.length_drop, List.length_take]; omega
  obtain ⟨W1, hr1, B1, G1⟩ := cp_ty (W := w.drew.drew) (dc := c4) (k := nj) (u := .slice (some a1) nj c1) (m := nj) HB.out hp4 (srv_pt (W := w.drew.drew) HB.out hp1) (by rw [List.length_take, List.length_drop]; omega) (by rw [hSl, HT.out, ← bv_drop]; exact bv_one _) (by rw [Nat.min_self]) (by omega)
  rw [hSl] at B1
  have hl1 : (pat X im ((X.take n).drop j)).length = c := by rw [pat_length (by omega)]; exact hXl
  have hV1 : Tx W1 (some va) m vc V := (HV.out.keep ((Below.refl _ w).drew.drew)).grown G1 (by intro _ a ha; injection ha with ha; subst ha; exact fun e => HA.out (Option.some.inj e))
  obtain ⟨W2, hr2, B2, G2⟩ := cp_ty (W := W1) (dc := c3) (k := m) (lo := i) B1 hp3 hV1.srv (by rw [bv_length]; exact hvl) (by rw [hVt]; exact bv_one V) (by rw [Nat.min_def]; split <;> omega) (by omega)
  rw [hVt] at B2
  have HO : Hid (W2.ownsRow base 5 1 (.slice (some ⟨g, 0, none⟩) tot c) tot (bv (T.take i ++ V ++ T.drop j))) := by
    refine own_blk B2 hg ?_ hroom hc ?_
    · rw [pat_length (by rw [hl1, bv_length]; omega)]; exact hl1
    · have h9 := ins_list (X := X) (V := bv V) (i := i) (j := j) (n := n) (m := m) (by omega) (by omega) (by rw [bv_length]; exact hvl) (by omega) (by omega) (S := (X.take n).drop j) rfl
      rw [him, show tot = n - (j - i) + m by omega, h9, HT.out, bv_append, bv_append, bv_take, bv_drop]
  have HG : Hid (w.grownBy W2 (some g)) := (grown_some ((grown_drew w).trans (grown_drew w.drew)) _).trans (G1.trans G2)
  have HR1 := Hid.mk' hr1
  have HOV := Hid.mk' hov
  clear hVt B1 G1 B2 G2 hSl hSn hXl hvl hr1 hp1 hp3 hp4 HB HX HT HV hl1 hk him hnj hroom hij hjn hnc htot hhigh hc63 hc hg hov hcell hV1
  go_enter Try.func32, Try.ntmps32
  go_wp2_with fail
  go_region
  go_wp2_with (simp only [HOV.out])
  go_region_law (refine st_copy rfl _ _ rfl _ _ (by simp [Act.eval, Act.put]) (by simp [Act.eval, Act.put]) HR1.out ?_)
  go_wp2
  go_ret
  exact ⟨_, rfl, HO.out, HG.out, .inl rfl⟩
theorem replace_any (base : Nat) (v : Value) (n i j : Nat) (T : List UInt8) (vo : Option Addr) (m vc tot : Nat) (V : List UInt8) (w : World) (H : Hid (w.ownsRow base 5 1 v n (bv T))) (HV : Hid (Tx w vo m vc V)) (HA : Hid (0 < m → ∀ a, vo = some a → a.block < base)) (hij : i ≤ j) (hjn : j ≤ n) (htot : tot = i + m + (n - j)) (hn : n ≤ 150000000000000) (hm2 : m ≤ 140737488355328) (hb : tot ≤ 150000000000000) (hbase : base ≤ w.heap.size) :
    Calls Try.prog 32 #[v, .int .i64 (i : Int), .int .i64 (j : Int), .slice vo m vc] w fun e w' => RepP base v tot (T.take i ++ V ++ T.drop j) w e w' := by
  have hTl : T.length = n := by have := H.out.1; rw [bv_length] at this; omega
  have hvl := HV.out.len
  by_cases h0 : i = j
  · subst h0
    have := rep_ins base v n i T vo m vc V w H HV HA hjn hm2 (by omega) hbase
    rw [show tot = n + m by omega]
    exact this
  · obtain ⟨g, c, X, rfl, hg, hB, hX, hnc, hc, hT⟩ := blk_own H.out (by omega)
    by_cases h1 : j = n
    · subst h1
      have e : T.take i ++ V ++ T.drop j = T.take i ++ V := by rw [List.drop_eq_nil_of_le (by omega), List.append_nil]
      rw [e, show tot = i + m by omega]
      by_cases hroom : i + m ≤ c
      · exact rep_endr base g j c i T X vo m vc V w hB hX hT HV (by omega) hnc hroom hc hg
      · exact rep_endg base g j c i T X vo m vc V w hB hX hT HV (by omega) hnc (by omega) hc hg hm2 (by omega) hbase
    · by_cases hroom : tot ≤ c
      · by_cases hlow : i + m ≤ j
        · exact rep_low base g n c i j T X vo m vc tot V w hB hX hT HV (by omega) (by omega) hnc hc htot hroom hlow hg
        · obtain ⟨va, u, rfl, hcell⟩ := HV.out.ne (by omega)
          exact rep_high base g n c i j T X va m vc tot V w hB hX hT HV (by omega) (by omega) hnc hc htot hroom (by omega) hg (by have := HA.out (by omega) va rfl; unfold Hid; omega)
      · obtain ⟨va, u, rfl, hcell⟩ := HV.out.ne (by omega)
        exact rep_grow base g n c i j T X va m vc tot V w hB hX hT HV (by omega) (by omega) hnc htot (by omega) hb hbase
end Go.Proofs.Ythklmdnamkjgmaa
