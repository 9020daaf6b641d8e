/- The contract of the reference's Insert. -/
import Derived.Test.YtjjgloioppjcaaaCutsWalk
import Derived.Deep.AppendLies
namespace Go.Proofs.Ytjjgloioppjcaaa
open Go.RowKit

theorem insL_length (L : List Sp) (a : Int) (p : Sp) : (insL L a p).length ≤ L.length + L.length + 1 := by
  unfold insL; split
  · refine Nat.le_trans (packL_length _) ?_
    have := betW_length 0 a L
    have := betW_length a (sizeW L) L
    rw [List.length_append, List.length_cons]; omega
  · simp
theorem lit_kept {w w' : World} {s o l : Int} (hb : Below (w.alloc (.cells #[.int .i64 s, .int .i64 o, .int .i64 l] 39)).heap.size (w.alloc (.cells #[.int .i64 s, .int .i64 o, .int .i64 l] 39)) w') :
    ∀ j u, ([Value.int .i64 s, .int .i64 o, .int .i64 l])[j]? = some u → w'.cell? ((⟨w.heap.size, 0, none⟩ : Addr).add j) = some u := by
  intro j u h
  have h1 := put_cells w s o l j u h
  have hadd : (⟨w.heap.size, 0, none⟩ : Addr).add j = ⟨w.heap.size, j, none⟩ := by unfold Addr.add; split <;> simp_all
  rw [hadd] at h1 ⊢
  rw [hb.cell (by simp)]; exact h1
theorem cells_snoc (A : List Sp) (s o l : Int) : cells A ++ [Value.int .i64 s, .int .i64 o, .int .i64 l] = cells (A ++ [⟨s, o, l⟩]) := by rw [cells_append]; simp [cells, Sp.cs]

theorem snoc_own {w w6 : World} {x : Obj} {g6 c6 : Nat} {A : List Sp} {s o l : Int} (h : w6.ownsRow (w.alloc x).heap.size 39 3 (.slice (some ⟨g6, 0, none⟩) (A.length + 1) c6) (A.length + 1) (cells A ++ [.int .i64 s, .int .i64 o, .int .i64 l])) (hb : Below (w.alloc x).heap.size (w.alloc x) w6) :
    w6.ownsRow w.heap.size 39 3 (.slice (some ⟨g6, 0, none⟩) (A.length + 1) c6) (A ++ [(⟨s, o, l⟩ : Sp)]).length (cells (A ++ [⟨s, o, l⟩])) ∧ Below w.heap.size w w6 := by
  rw [cells_snoc] at h
  exact ⟨own_lower (by simpa using h) (by simp), bA hb⟩

set_option maxRecDepth 100000 in
set_option maxHeartbeats 4000000 in
theorem refInsert_yes {w : World} {v : Value} {L : List Sp} (a : Int) (s o l : Int) (hz : L.length ≤ 1048576) (hp : Hid (rgt ⟨s, o, l⟩ = true)) (h0 : Hid (rfs L a a = 0)) (h1 : Hid (Rdb w v L)) :
    Calls Try.prog 21 #[v, .int .i64 a, .agg #[.int .i64 s, .int .i64 o, .int .i64 l]] w fun e w' => Gave1 w (packL (betW 0 a L ++ ⟨s, o, l⟩ :: betW a (sizeW L) L)) 0 e w' := by
  obtain ⟨ao, c, rfl⟩ := rdb_shape h1.out
  obtain ⟨i0, hi, hz0, hz1, hz2⟩ := info_parts info39
  have z0 := rfs_zero h0.out
  have HO := Hid.mk' z0.1
  have hla := betW_length 0 a L
  have hlb := betW_length a (sizeW L) L
  have hs1 := (sizeW_eq hz z0.1)
  rw [← hs1.1] at hs1
  obtain ⟨_, _, hS2⟩ := hs1
  obtain ⟨_, ha0, _, haS⟩ := z0
  have hna : ¬ a < 0 := by omega
  generalize hS : sizeW L = S at *
  have HS := Hid.mk' hS
  generalize hA : betW 0 a L = A at *
  generalize hB : betW a S L = B at *
  have HA := Hid.mk' hA
  have HB := Hid.mk' hB
  clear hA hB hS
  have hnS : ¬ S < a := by omega
  go_enter Try.func21, Try.ntmps21
  go_wp2_with (first | (go_at_call 26; (have Q := refAllRight_any ao _ c L (w.alloc (.cells #[.int .i64 s, .int .i64 o, .int .i64 l] 39)) rfl (by omega) (rdb_row (h1.out.keep (bAlloc (Below.refl _ _) _)))); rw [HO.out] at Q; refine Q.mono ?_; clear Q; rintro e w9 ⟨rfl, k1⟩; (have H9 := Hid.mk' k1); (obtain ⟨d0, d1, d2⟩ := three H9.out); clear k1)
                     | (go_at_call 35; refine (refRight_any s o l _).mono ?_; rintro e w' ⟨rfl, rfl⟩; rw [hp.out])
                     | (go_at_call 11; (have Q := refSize_rdb (by omega) (h1.out.keep (bA (bAlloc H9.out (.cells #[.int .i64 s, .int .i64 o, .int .i64 l] 39))))); rw [HS.out] at Q; refine Q.mono ?_; clear Q; rintro e w8 ⟨rfl, k1⟩; (have H8 := Hid.mk' (bT (bAlloc H9.out _) k1)); clear k1))
  obtain ⟨x0, x1, x2⟩ := three H8.out
  have HW := Hid.mk' (bA H8.out)
  clear d0 d1 d2
  go_region_held3 (fun w' => w'.cell? ⟨w.heap.size, 0, none⟩ = some (.int .i64 s) ∧ w'.cell? ⟨w.heap.size, 1, none⟩ = some (.int .i64 o) ∧ w'.cell? ⟨w.heap.size, 2, none⟩ = some (.int .i64 l)) (first | assumption | exact three (bAlloc D7.out _) | exact three (bAlloc H8.out _) | exact three (bAlloc H8.out _).drew | simp [*, go_sem])
    (first | (go_at_call 30; refine (part_rdb 0 a hz (by omega) (by omega) HO.out (h1.out.keep (by first | exact HW.out.drew | exact (bAlloc HW.out _).drew))).mono ?_; rw [HA.out]; rintro e w7 ⟨v7, rfl, h7, k7, _⟩; obtain ⟨a7, c7, rfl⟩ := own_shape h7; (have K7 := Hid.mk' k7); (have D7 : Hid (Below (w.alloc (.cells #[.int .i64 s, .int .i64 o, .int .i64 l] 39)).heap.size (w.alloc (.cells #[.int .i64 s, .int .i64 o, .int .i64 l] 39)) w7) := bT (by first | exact H8.out.drew | exact (bAlloc H8.out _).drew) k7); (have R7 : Hid (w7.ownsRow (w.alloc (.cells #[.int .i64 s, .int .i64 o, .int .i64 l] 39)).heap.size 39 3 (.slice a7 A.length c7) A.length (cells A)) := own_lower h7 (by have := H8.out.size; simp at this ⊢; omega)); have k9 := three D7.out)
           | (refine step_append_lies _ (by rfl) (.tmp 27) (.tmp 29) 22 (by rfl) (w.alloc (.cells #[.int .i64 s, .int .i64 o, .int .i64 l] 39)).heap.size 39 i0 (.agg #[.int .i64 0, .int .i64 0, .int .i64 0]) 3 24 Try.underlying22 hi hz0 hz1 hz2 (by rfl) (by decide) (.slice a7 A.length c7) A.length (cells A) (by rfl) (R7.out.alloc _) ⟨w7.heap.size, 0, none⟩ 1 1 [.int .i64 s, .int .i64 o, .int .i64 l] (by rfl) (by rfl) (put_cells w7 s o l) (one3 s o l) (by decide) (by unfold maxLen; omega) (by omega) (by have := D7.out.size; simp at this ⊢; omega) (w7.heap.size + 1) (by simp) ?_; intro g6 c6 w6 hown6 hgrow6 hat6 hlt6; (have D6 : Hid (Below (w.alloc (.cells #[.int .i64 s, .int .i64 o, .int .i64 l] 39)).heap.size (w.alloc (.cells #[.int .i64 s, .int .i64 o, .int .i64 l] 39)) w6) := (bAlloc D7.out _).grown hgrow6 (by have := D7.out.size; simp at this ⊢; omega) (fun k hk => (R7.out.lt k hk).1)); (have R6 := Hid.mk' hown6); have k9 := three D6.out)
           | (refine step_append_lies _ (by rfl) (.tmp 27) (.tmp 29) 22 (by rfl) (w.alloc (.cells #[.int .i64 s, .int .i64 o, .int .i64 l] 39)).heap.size 39 i0 (.agg #[.int .i64 0, .int .i64 0, .int .i64 0]) 3 24 Try.underlying22 hi hz0 hz1 hz2 (by rfl) (by decide) (.slice a7 A.length c7) A.length (cells A) (by rfl) R7.out ⟨w8.heap.size, 0, none⟩ 1 1 [.int .i64 s, .int .i64 o, .int .i64 l] (by rfl) (by rfl) (lit_kept (bD K7.out)) (one3 s o l) (by decide) (by unfold maxLen; omega) (by omega) (by have := D7.out.size; simp at this ⊢; omega) w7.heap.size rfl ?_; intro g6 c6 w6 hown6 hgrow6 hat6 hlt6; (have D6 : Hid (Below (w.alloc (.cells #[.int .i64 s, .int .i64 o, .int .i64 l] 39)).heap.size (w.alloc (.cells #[.int .i64 s, .int .i64 o, .int .i64 l] 39)) w6) := D7.out.grown hgrow6 (by have := D7.out.size; simp at this ⊢; omega) (fun k hk => (R7.out.lt k hk).1)); (have R6 := Hid.mk' hown6); have k9 := three D6.out))
  all_goals (have R66 := Hid.mk' (snoc_own R6.out D6.out))
  all_goals clear R6 hown6 hgrow6 hat6 hlt6
  all_goals (go_wp2_with (first | (go_at_call 11; (have Q := refSize_rdb (by omega) (h1.out.keep R66.out.2)); rw [HS.out] at Q; refine Q.mono ?_; clear Q; rintro e w5 ⟨rfl, k1⟩; (have H5 : Hid (w5.ownsRow w.heap.size 39 3 (.slice (some ⟨g6, 0, none⟩) (A.length + 1) c6) (A ++ [(⟨s, o, l⟩ : Sp)]).length (cells (A ++ [⟨s, o, l⟩])) ∧ Below w.heap.size w w5) := ⟨own_keep R66.out.1 k1, bT R66.out.2 k1⟩); clear k1)
                                | (go_at_call 30; (have Q := part_rdb a S hz (by omega) (by omega) HO.out (h1.out.keep H5.out.2)); rw [HB.out] at Q; refine Q.mono ?_; clear Q; rintro e w4 ⟨v4, rfl, h4, k4, _⟩; (have H4 : Hid (w4.ownsRow w.heap.size 39 3 (.slice (some ⟨g6, 0, none⟩) (A.length + 1) c6) (A ++ [(⟨s, o, l⟩ : Sp)]).length (cells (A ++ [⟨s, o, l⟩])) ∧ w4.ownsRow w5.heap.size 39 3 v4 B.length (cells B) ∧ Below w.heap.size w w4) := ⟨own_keep H5.out.1 k4, h4, bT H5.out.2 k4⟩); clear h4 k4)
                                | (at_builtin; refine append_rows rfl (.tmp 31) (.tmp 36) rfl w.heap.size (.slice (some ⟨g6, 0, none⟩) (A.length + 1) c6) (A ++ [⟨s, o, l⟩]) rfl H4.out.1 v4 B rfl H4.out.2.1 (by rw [List.length_append]; simp; omega) H4.out.2.2.size ?_; intro v3 w3 h3 k3; (have H3 : Hid (w3.ownsRow w.heap.size 39 3 v3 (A ++ [(⟨s, o, l⟩ : Sp)] ++ B).length (cells (A ++ [⟨s, o, l⟩] ++ B)) ∧ Below w.heap.size w w3) := ⟨h3, H4.out.2.2.grown k3 H4.out.2.2.size (fun k hk => (H4.out.1.lt k hk).1)⟩); clear h3 k3)
                                | (go_at_call 10; (have Q := refPack_rdb (by rw [List.length_append, List.length_append]; simp; omega) (own_rdb H3.out.1)); rw [packA_yes (by rw [okL_append, okL_append, ← HA.out, ← HB.out, betW_ok HO.out, betW_ok HO.out]; have := hp.out; simp [okL, this])] at Q; refine Q.mono ?_; clear Q; rintro e w2 ⟨v2, rfl, h2, k2, _⟩; (have H2 : Hid (w2.ownsRow w.heap.size 39 3 v2 (packL (A ++ [⟨s, o, l⟩] ++ B)).length (cells (packL (A ++ [⟨s, o, l⟩] ++ B))) ∧ Below w.heap.size w w2) := ⟨own_lower h2 H3.out.2.size, bT H3.out.2 k2⟩); clear h2 k2)))
  all_goals (have e9 : A ++ [(⟨s, o, l⟩ : Sp)] ++ B = A ++ ⟨s, o, l⟩ :: B := by simp)
  all_goals rw [e9] at H2
  all_goals exact bodyPost_ret (v := .tuple #[v2, .int .i64 0]) (by simp [results, Try.results21, go_sem]) rfl ⟨v2, rfl, H2.out⟩

set_option maxRecDepth 100000 in
set_option maxHeartbeats 2000000 in
theorem refInsert_rdb {w : World} {v : Value} {L : List Sp} (a : Int) (s o l : Int) (hz : L.length ≤ 1048576) (h1 : Hid (Rdb w v L)) :
    Calls Try.prog 21 #[v, .int .i64 a, .agg #[.int .i64 s, .int .i64 o, .int .i64 l]] w fun e w' => Gave1 w (insL L a ⟨s, o, l⟩) (insE L a ⟨s, o, l⟩) e w' := by
  obtain ⟨ao, c, rfl⟩ := rdb_shape h1.out
  cases hok : okL L with
  | false =>
    have e1 : insE L a ⟨s, o, l⟩ = 10 := by
      unfold insE; rw [rfs_bad hok]; split <;> rfl
    rw [insL, e1, if_neg (by omega)]
    have HO := Hid.mk' hok
    clear hok e1
    go_enter Try.func21, Try.ntmps21
    go_wp2_with (go_at_call 26; (have Q := refAllRight_any ao _ c L (w.alloc (.cells #[.int .i64 s, .int .i64 o, .int .i64 l] 39)) rfl (by omega) (rdb_row (h1.out.keep (bAlloc (Below.refl _ _) _)))); rw [HO.out] at Q; refine Q.mono ?_; clear Q; rintro e w9 ⟨rfl, k1⟩; (have H9 := Hid.mk' (bA k1)); clear k1)
    exact bodyPost_ret (v := .tuple #[.slice none 0 0, .int .i64 10]) (by simp [results, Try.results21, go_sem]) rfl ⟨_, rfl, World.ownsRow_nil _ _ _ _, H9.out⟩
  | true =>
    have HO := Hid.mk' hok
    cases hp : rgt ⟨s, o, l⟩ with
    | false =>
      have e1 : insE L a ⟨s, o, l⟩ = 10 := by unfold insE; rw [hp]; rfl
      rw [insL, e1, if_neg (by omega)]
      have HP := Hid.mk' hp
      clear hok e1 hp
      go_enter Try.func21, Try.ntmps21
      go_wp2_with (first | (go_at_call 26; (have Q := refAllRight_any ao _ c L (w.alloc (.cells #[.int .i64 s, .int .i64 o, .int .i64 l] 39)) rfl (by omega) (rdb_row (h1.out.keep (bAlloc (Below.refl _ _) _)))); rw [HO.out] at Q; refine Q.mono ?_; clear Q; rintro e w9 ⟨rfl, k1⟩; (have H9 := Hid.mk' k1); (obtain ⟨d0, d1, d2⟩ := three H9.out); clear k1)
                         | (go_at_call 35; refine (refRight_any s o l _).mono ?_; rintro e w' ⟨rfl, rfl⟩; rw [HP.out]))
      exact bodyPost_ret (v := .tuple #[.slice none 0 0, .int .i64 10]) (by simp [results, Try.results21, go_sem]) rfl ⟨_, rfl, World.ownsRow_nil _ _ _ _, bAlloc (bA H9.out) _⟩
    | true =>
      have e1 : insE L a ⟨s, o, l⟩ = rfs L a a := by unfold insE; rw [if_pos hp]
      by_cases h0 : rfs L a a = 0
      · rw [insL, e1, if_pos h0, h0]
        exact refInsert_yes a s o l hz hp h0 h1
      · have hE : rfs L a a = 30 ∧ (a < 0 ∨ sizeW L < a) := by
          unfold rfs at h0 ⊢
          rw [if_pos hok] at h0 ⊢
          split at h0
          · rename_i h2; rw [if_pos h2]; exact ⟨rfl, by omega⟩
          · omega
        rw [insL, e1, if_neg h0, hE.1]
        have HP := Hid.mk' hp
        have HE := Hid.mk' hE.2
        clear hok e1 hp hE h0
        generalize hS : sizeW L = S at *
        have HS := Hid.mk' hS
        clear hS
        by_cases ha : a < 0
        · go_enter Try.func21, Try.ntmps21
          go_wp2_with (first | (go_at_call 26; (have Q := refAllRight_any ao _ c L (w.alloc (.cells #[.int .i64 s, .int .i64 o, .int .i64 l] 39)) rfl (by omega) (rdb_row (h1.out.keep (bAlloc (Below.refl _ _) _)))); rw [HO.out] at Q; refine Q.mono ?_; clear Q; rintro e w9 ⟨rfl, k1⟩; (have H9 := Hid.mk' k1); (obtain ⟨d0, d1, d2⟩ := three H9.out); clear k1)
                             | (go_at_call 35; refine (refRight_any s o l _).mono ?_; rintro e w' ⟨rfl, rfl⟩; rw [HP.out]))
          exact bodyPost_ret (v := .tuple #[.slice none 0 0, .int .i64 30]) (by simp [results, Try.results21, go_sem]) rfl ⟨_, rfl, World.ownsRow_nil _ _ _ _, bAlloc (bA H9.out) _⟩
        · have hs : S < a := by have := HE.out; omega
          go_enter Try.func21, Try.ntmps21
          go_wp2_with (first | (go_at_call 26; (have Q := refAllRight_any ao _ c L (w.alloc (.cells #[.int .i64 s, .int .i64 o, .int .i64 l] 39)) rfl (by omega) (rdb_row (h1.out.keep (bAlloc (Below.refl _ _) _)))); rw [HO.out] at Q; refine Q.mono ?_; clear Q; rintro e w9 ⟨rfl, k1⟩; (have H9 := Hid.mk' k1); (obtain ⟨d0, d1, d2⟩ := three H9.out); clear k1)
                             | (go_at_call 35; refine (refRight_any s o l _).mono ?_; rintro e w' ⟨rfl, rfl⟩; rw [HP.out])
                             | (go_at_call 11; (have Q := refSize_rdb (by omega) (h1.out.keep (bA (bAlloc H9.out (.cells #[.int .i64 s, .int .i64 o, .int .i64 l] 39))))); rw [HS.out] at Q; refine Q.mono ?_; clear Q; rintro e w8 ⟨rfl, k1⟩; (have H8 := Hid.mk' (bT (bAlloc H9.out _) k1)); clear k1))
          exact bodyPost_ret (v := .tuple #[.slice none 0 0, .int .i64 30]) (by simp [results, Try.results21, go_sem]) rfl ⟨_, rfl, World.ownsRow_nil _ _ _ _, bA H8.out⟩
end Go.Proofs.Ytjjgloioppjcaaa
