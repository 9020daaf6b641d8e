/- The contract of the reference's Delete. -/
import Derived.Test.YtjjgloioppjcaaaRefCuts
namespace Go.Proofs.Ytjjgloioppjcaaa
open Go.RowKit

/-- 'append(a, b...)' of two lists that the call owns -/
theorem append_rows {w : World} {ops : Array Oper} {rest : List Oper} {o : Oper} {a : Act} {Q : Exit → Act → World → Prop} (hgd : o.guard = none) (s x : Operand)
    (ho : o.op = .call { callee := .builtin .append, args := #[s, x], argTypes := #[22, 22] })
    (base : Nat) (v : Value) (A : List Sp) (hs : a.eval s = v) (hown : w.ownsRow base 39 3 v A.length (cells A)) (u : Value) (B : List Sp) (hx : a.eval x = u) {base' : Nat} (hsrc : w.ownsRow base' 39 3 u B.length (cells B))
    (hbytes : (A.length + B.length) * 24 ≤ 140737488355328) (hbase : base ≤ w.heap.size)
    (h : ∀ v' w', w'.ownsRow base 39 3 v' (A ++ B).length (cells (A ++ B)) → w.grownBy w' v.ownBlock → wpList Try.prog ops Q rest (a.put o.dst v') w') : wpList Try.prog ops Q (o :: rest) a w := by
  obtain ⟨i0, hi, hz0, hz1, hz2⟩ := info_parts info39
  have h1 : ∀ u ∈ cells B, u.oneCell' = true := by
    intro u hu
    obtain ⟨p, _, hp⟩ := List.mem_flatMap.1 hu
    exact one3 p.s p.o p.l u hp
  rcases hsrc.2 with ⟨hu, h0⟩ | ⟨g, cap, cur, hu, hb, hg, hc1, hc2, hc3, hc4⟩
  · subst hu
    have hB : B = [] := List.eq_nil_of_length_eq_zero h0
    subst hB
    refine wpList_append_own_none hgd s x 22 ho base 39 i0 3 Try.underlying22 hi v A.length (cells A) hs hown hx (h v w (by simpa using hown) ⟨rfl, rfl, rfl, Nat.le_refl _, fun _ _ _ => rfl⟩)
  · subst hu
    refine wpList_append_own w hgd s x 22 ho base 39 i0 (.agg #[.int .i64 0, .int .i64 0, .int .i64 0]) 3 24 Try.underlying22 hi hz0 hz1 hz2 rfl (by decide) v A.length (cells A) hs hown ⟨g, 0, none⟩ B.length cap (cells B) hx (cells_length B) ?_ h1 (by unfold maxLen; omega) hbytes hbase (fun v' w' h2 h3 _ => h v' w' (by rw [List.length_append, cells_append]; exact h2) h3)
    intro j u hj
    have hadd : (⟨g, 0, none⟩ : Addr).add j = ⟨g, j, none⟩ := by unfold Addr.add; split <;> simp_all
    have hlt := (List.getElem?_eq_some_iff.1 hj).1
    rw [cells_length] at hlt
    rw [hadd, hsrc.cellAt j (by omega)]; exact hj

set_option maxRecDepth 100000 in
set_option maxHeartbeats 2000000 in
theorem refDelete_rdb {w : World} {v : Value} {L : List Sp} (a b : Int) (hz : L.length ≤ 1048576) (h1 : Hid (Rdb w v L)) :
    Calls Try.prog 16 #[v, .int .i64 a, .int .i64 b] w fun e w' => Gave1 w (delL L a b) (rfs L a b) e w' := by
  obtain ⟨ao, c, rfl⟩ := rdb_shape h1.out
  have HR := Hid.mk' (rdb_row h1.out)
  cases hok : okL L with
  | false =>
    rw [delL, rfs_bad hok, if_neg (by omega)]
    have HO := Hid.mk' hok
    clear hok
    go_enter Try.func16, Try.ntmps16
    go_wp2_with (go_at_call 26; refine (refAllRight_any ao _ c L _ rfl (by omega) HR).mono ?_; rintro e w9 ⟨rfl, hb9⟩; rw [HO.out]; (have H9 := Hid.mk' hb9); clear hb9)
    exact bodyPost_ret (v := .tuple #[.slice none 0 0, .int .i64 10]) (by simp [results, Try.results16, go_sem]) rfl ⟨_, rfl, World.ownsRow_nil _ _ _ _, H9.out⟩
  | true =>
    have HO := Hid.mk' hok
    have HZ := Hid.mk' (sizeW_eq hz hok)
    have hla := betW_length 0 a L
    have hlb := betW_length b (sizeW L) L
    obtain ⟨i0, hi, hz0, hz1, hz2⟩ := info_parts info39
    have hE : Hid (rfs L a b = if a < 0 ∨ b < a ∨ sizeW L < b then 30 else 0) := by unfold Hid rfs; rw [if_pos hok]
    clear hok
    generalize hS : sizeW L = S at *
    have HS := Hid.mk' hS
    clear hS
    by_cases ha : a < 0
    · rw [delL, hE.out, if_pos (show a < 0 ∨ b < a ∨ S < b by omega), if_neg (by omega)]
      clear hE
      go_enter Try.func16, Try.ntmps16
      go_wp2_with (go_at_call 26; refine (refAllRight_any ao _ c L _ rfl (by omega) HR).mono ?_; rintro e w9 ⟨rfl, hb9⟩; rw [HO.out]; (have H9 := Hid.mk' hb9); clear hb9)
      exact bodyPost_ret (v := .tuple #[.slice none 0 0, .int .i64 30]) (by simp [results, Try.results16, go_sem]) rfl ⟨_, rfl, World.ownsRow_nil _ _ _ _, H9.out⟩
    · by_cases hb : b < a
      · rw [delL, hE.out, if_pos (show a < 0 ∨ b < a ∨ S < b by omega), if_neg (by omega)]
        clear hE
        go_enter Try.func16, Try.ntmps16
        go_wp2_with (go_at_call 26; refine (refAllRight_any ao _ c L _ rfl (by omega) HR).mono ?_; rintro e w9 ⟨rfl, hb9⟩; rw [HO.out]; (have H9 := Hid.mk' hb9); clear hb9)
        exact bodyPost_ret (v := .tuple #[.slice none 0 0, .int .i64 30]) (by simp [results, Try.results16, go_sem]) rfl ⟨_, rfl, World.ownsRow_nil _ _ _ _, H9.out⟩
      · by_cases hs : S < b
        · rw [delL, hE.out, if_pos (show a < 0 ∨ b < a ∨ S < b by omega), if_neg (by omega)]
          clear hE
          go_enter Try.func16, Try.ntmps16
          go_wp2_with (first | (go_at_call 26; refine (refAllRight_any ao _ c L _ rfl (by omega) HR).mono ?_; rintro e w9 ⟨rfl, hb9⟩; rw [HO.out]; (have H9 := Hid.mk' hb9); clear hb9)
                             | (go_at_call 11; (have Q := refSize_rdb (by omega) (h1.out.keep H9.out)); rw [HS.out] at Q; refine Q.mono ?_; clear Q; rintro e w8 ⟨rfl, h8⟩; (have H8 := Hid.mk' (bT H9.out h8)); clear h8))
          exact bodyPost_ret (v := .tuple #[.slice none 0 0, .int .i64 30]) (by simp [results, Try.results16, go_sem]) rfl ⟨_, rfl, World.ownsRow_nil _ _ _ _, H8.out⟩
        · rw [delL, hE.out, if_neg (show ¬ (a < 0 ∨ b < a ∨ S < b) by omega), if_pos rfl, HS.out]
          clear hE
          have hS2 : S ≤ 2251799813685248 := by have := HZ.out; omega
          generalize hA : betW 0 a L = A at *
          generalize hB : betW b S L = B at *
          have HA := Hid.mk' hA
          have HB := Hid.mk' hB
          clear hA hB
          go_enter Try.func16, Try.ntmps16
          go_wp2_with (first | (go_at_call 26; refine (refAllRight_any ao _ c L _ rfl (by omega) HR).mono ?_; rintro e w9 ⟨rfl, hb9⟩; rw [HO.out]; (have H9 := Hid.mk' hb9); clear hb9)
                             | (go_at_call_of 30 (Value.int .i64 0); (have Q := part_rdb 0 a hz (by omega) (by omega) HO.out (h1.out.keep H8.out)); rw [HA.out] at Q; refine Q.mono ?_; clear Q; rintro e w7 ⟨v7, rfl, h7, k7, _⟩; (have H7 : Hid (w7.ownsRow w8.heap.size 39 3 v7 A.length (cells A) ∧ Below w.heap.size w w7) := ⟨h7, bT H8.out k7⟩); clear h7 k7)
                             | (go_at_call_of 30 (Value.int .i64 S); (have Q := part_rdb b S hz (by omega) (by omega) HO.out (h1.out.keep H6.out.2)); rw [HB.out] at Q; refine Q.mono ?_; clear Q; rintro e w5 ⟨v5, rfl, h5, k5, _⟩; (have H5 : Hid (w5.ownsRow w.heap.size 39 3 v7 A.length (cells A) ∧ w5.ownsRow w6.heap.size 39 3 v5 B.length (cells B) ∧ Below w.heap.size w w5) := ⟨own_lower (own_keep H6.out.1 k5) H8.out.size, h5, bT H6.out.2 k5⟩); clear h5 k5)
                             | (go_at_call 11; (have Q := refSize_rdb (by omega) (h1.out.keep H7.out.2)); rw [HS.out] at Q; refine Q.mono ?_; clear Q; rintro e w6 ⟨rfl, h6⟩; (have H6 : Hid (w6.ownsRow w8.heap.size 39 3 v7 A.length (cells A) ∧ Below w.heap.size w w6) := ⟨own_keep H7.out.1 h6, bT H7.out.2 h6⟩); clear h6)
                             | (go_at_call 11; (have Q := refSize_rdb (by omega) (h1.out.keep H9.out)); rw [HS.out] at Q; refine Q.mono ?_; clear Q; rintro e w8 ⟨rfl, h8⟩; (have H8 := Hid.mk' (bT H9.out h8)); clear h8)
                             | (at_builtin; refine append_rows rfl (.tmp 26) (.tmp 31) rfl w.heap.size v7 A rfl H5.out.1 v5 B rfl H5.out.2.1 (by omega) H5.out.2.2.size ?_; intro v4 w4 h4 k4; (have H4 : Hid (w4.ownsRow w.heap.size 39 3 v4 (A ++ B).length (cells (A ++ B)) ∧ Below w.heap.size w w4) := ⟨h4, H5.out.2.2.grown k4 H5.out.2.2.size (fun k hk => (H5.out.1.lt k hk).1)⟩); clear h4 k4)
                             | (go_at_call 10; (have Q := refPack_rdb (by rw [List.length_append]; omega) (own_rdb H4.out.1)); rw [packA_yes (by rw [okL_append, ← HA.out, ← HB.out, betW_ok HO.out, betW_ok HO.out]; rfl)] at Q; refine Q.mono ?_; clear Q; rintro e w3 ⟨v3, rfl, h3, k3, _⟩; (have H3 : Hid (w3.ownsRow w.heap.size 39 3 v3 (packL (A ++ B)).length (cells (packL (A ++ B))) ∧ Below w.heap.size w w3) := ⟨own_lower h3 H4.out.2.size, bT H4.out.2 k3⟩); clear h3 k3))
          exact bodyPost_ret (v := .tuple #[v3, .int .i64 0]) (by simp [results, Try.results16, go_sem]) rfl ⟨v3, rfl, H3.out⟩
end Go.Proofs.Ytjjgloioppjcaaa
