/- Select refused: the program's and the reference's. -/
import Derived.Test.YtgdhdegmjljbfaaRsl
namespace Go.Proofs.Ytgdhdegmjljbfaa
open Go.RowKit
/-- a key that is none -/
def Bad (s : ByteArray) : Prop := ¬ s.size = 2 ∨ ∃ x y, s = ⟨#[x, y]⟩ ∧ ((¬ (x.toNat : Int) = 105 ∧ ¬ (x.toNat : Int) = 97) ∨ (((x.toNat : Int) = 105 ∨ (x.toNat : Int) = 97) ∧ y ∉ srt))
/-- a question that is refused -/
def No (n : Nat) (i cnt : Int) (s : ByteArray) : Prop := i < 0 ∨ (0 ≤ i ∧ (n : Int) < i) ∨ (0 ≤ i ∧ i ≤ (n : Int) ∧ cnt < 1) ∨ (0 ≤ i ∧ i ≤ (n : Int) ∧ 1 ≤ cnt ∧ 9999 < cnt) ∨ (0 ≤ i ∧ i ≤ (n : Int) ∧ 1 ≤ cnt ∧ cnt ≤ 9999 ∧ Bad s)
theorem isKey_bad {s : ByteArray} (h : Bad s) (w : World) : Calls Try.prog 26 #[.string s] w fun e w' => e = .returned (.bool false) ∧ w' = w := by
  rcases h with h | ⟨x, y, rfl, h⟩
  · exact isKey_not s h w
  · have e : ky x y = false := by
      unfold ky
      rcases h with ⟨h1, h2⟩ | ⟨_, h2⟩
      · rw [decide_eq_false h1, decide_eq_false h2]; rfl
      · rw [decide_eq_false h2, Bool.and_false]
    have := isKey_two x y w
    rwa [e] at this
set_option maxRecDepth 8000 in
set_option maxHeartbeats 8000000 in
theorem select_no (ao : Option Addr) (n c : Nat) (i cnt : Int) (s : ByteArray) (w : World) (h : No n i cnt s) :
    Calls Try.prog 10 #[.slice ao n c, .int .i64 i, .int .i64 cnt, .string s] w fun e w' => e = tg 0 0 0 2 ∧ Below w.heap.size w w' := by
  rcases h with h | ⟨h1, h⟩ | ⟨h1, h2, h⟩ | ⟨h1, h2, h3, h⟩ | ⟨h1, h2, h3, h4, h⟩
  · go_enter Try.func10, Try.ntmps10
    go_wp2
    all_goals exact bodyPost_ret (v := .tuple #[.agg #[.int .i64 0, .int .i64 0, .int .i64 0], .int .i64 2]) (by simp [results, Try.results10, go_sem]) rfl ⟨rfl, bAlloc (Below.refl _ _) _⟩
  · go_enter Try.func10, Try.ntmps10
    go_wp2
    all_goals exact bodyPost_ret (v := .tuple #[.agg #[.int .i64 0, .int .i64 0, .int .i64 0], .int .i64 2]) (by simp [results, Try.results10, go_sem]) rfl ⟨rfl, bAlloc (Below.refl _ _) _⟩
  · go_enter Try.func10, Try.ntmps10
    go_wp2
    all_goals exact bodyPost_ret (v := .tuple #[.agg #[.int .i64 0, .int .i64 0, .int .i64 0], .int .i64 2]) (by simp [results, Try.results10, go_sem]) rfl ⟨rfl, bAlloc (Below.refl _ _) _⟩
  · go_enter Try.func10, Try.ntmps10
    go_wp2
    all_goals exact bodyPost_ret (v := .tuple #[.agg #[.int .i64 0, .int .i64 0, .int .i64 0], .int .i64 2]) (by simp [results, Try.results10, go_sem]) rfl ⟨rfl, bAlloc (Below.refl _ _) _⟩
  · have CK := Hid.mk' (fun W => isKey_bad h W)
    clear h
    go_enter Try.func10, Try.ntmps10
    go_wp2_with (go_at_call 26; refine (CK.out _).mono ?_; rintro e w' ⟨rfl, hw⟩; have hq := hw.symm; subst hq; clear hw)
    all_goals exact bodyPost_ret (v := .tuple #[.agg #[.int .i64 0, .int .i64 0, .int .i64 0], .int .i64 2]) (by simp [results, Try.results10, go_sem]) rfl ⟨rfl, bAlloc (Below.refl _ _) _⟩
set_option maxRecDepth 8000 in
set_option maxHeartbeats 8000000 in
theorem rselect_no (ao : Option Addr) (n c : Nat) (i cnt : Int) (s : ByteArray) (l : List UInt8) (w : World) (h : No n i cnt s) (HT : Hid (Tx w ao n c l)) :
    Calls Try.prog 9 #[.slice ao n c, .int .i64 i, .int .i64 cnt, .string s] w fun e w' => e = tg 0 0 0 2 ∧ Below w.heap.size w w' := by
  rcases h with h | ⟨h1, h⟩ | ⟨h1, h2, h⟩ | ⟨h1, h2, h3, h⟩ | ⟨h1, h2, h3, h4, h⟩
  · go_enter Try.func9, Try.ntmps9
    go_wp2
    all_goals exact bodyPost_ret (v := .tuple #[.agg #[.int .i64 0, .int .i64 0, .int .i64 0], .int .i64 2]) (by simp [results, Try.results9, go_sem]) rfl ⟨rfl, bAlloc (Below.refl _ _) _⟩
  · go_enter Try.func9, Try.ntmps9
    go_wp2
    all_goals exact bodyPost_ret (v := .tuple #[.agg #[.int .i64 0, .int .i64 0, .int .i64 0], .int .i64 2]) (by simp [results, Try.results9, go_sem]) rfl ⟨rfl, bAlloc (Below.refl _ _) _⟩
  · go_enter Try.func9, Try.ntmps9
    go_wp2
    all_goals exact bodyPost_ret (v := .tuple #[.agg #[.int .i64 0, .int .i64 0, .int .i64 0], .int .i64 2]) (by simp [results, Try.results9, go_sem]) rfl ⟨rfl, bAlloc (Below.refl _ _) _⟩
  · go_enter Try.func9, Try.ntmps9
    go_wp2
    all_goals exact bodyPost_ret (v := .tuple #[.agg #[.int .i64 0, .int .i64 0, .int .i64 0], .int .i64 2]) (by simp [results, Try.results9, go_sem]) rfl ⟨rfl, bAlloc (Below.refl _ _) _⟩
  · rcases h with h | ⟨x, y, rfl, h⟩
    · have hs : (((s.size : Nat) : Int) != 2) = true := by
        have : ¬ ((s.size : Nat) : Int) = 2 := by omega
        simpa using this
      have hs2 : (((s.size : Nat) : Int) == 2) = false := by rw [beq_eq_false_iff_ne]; omega
      clear h
      go_enter Try.func9, Try.ntmps9
      go_wp2
      all_goals exact bodyPost_ret (v := .tuple #[.agg #[.int .i64 0, .int .i64 0, .int .i64 0], .int .i64 2]) (by simp [results, Try.results9, go_sem]) rfl ⟨rfl, bAlloc (Below.refl _ _) _⟩
    · have hx0 : (((⟨#[x, y]⟩ : ByteArray)[0]'(by show 0 < 2; omega)).toNat : Int) = (x.toNat : Int) := rfl
      have hx1 : (((⟨#[x, y]⟩ : ByteArray)[1]'(by show 1 < 2; omega)).toNat : Int) = (y.toNat : Int) := rfl
      have hs : (⟨#[x, y]⟩ : ByteArray).size = 2 := rfl
      rcases h with ⟨g1, g2⟩ | ⟨g1, g2⟩
      · have e1 : ((x.toNat : Int) != 105) = true := by simpa using g1
        have e2 : ((x.toNat : Int) != 97) = true := by simpa using g2
        clear g1 g2
        go_enter Try.func9, Try.ntmps9
        go_wp2
        all_goals exact bodyPost_ret (v := .tuple #[.agg #[.int .i64 0, .int .i64 0, .int .i64 0], .int .i64 2]) (by simp [results, Try.results9, go_sem]) rfl ⟨rfl, bAlloc (Below.refl _ _) _⟩
      · have hlen := HT.out.len
        obtain ⟨k, rfl⟩ := Int.eq_ofNat_of_zero_le h1
        have hq : k ≤ n := by omega
        have hX0 := nl_take_le l k
        have hnl := nl_le l
        have C16 := Hid.mk' (fun W (hb : Below w.heap.size w W) => rof_at hq (HT.out.keep hb))
        have C17 := Hid.mk' (fun W (hb : Below w.heap.size w W) => rstart_at hX0 (HT.out.keep hb))
        have C18 := Hid.mk' (fun W (hb : Below w.heap.size w W) => rend_at hX0 (HT.out.keep hb))
        have hne : ¬ isS (y.toNat : Int) := fun h9 => g2 (by
          have hy : ∀ z : UInt8, (y.toNat : Int) = (z.toNat : Int) → y = z := fun z hz => UInt8.toNat_inj.1 (by omega)
          unfold srt
          simp only [List.mem_cons, List.not_mem_nil, or_false]
          unfold isS isB at h9
          rcases h9 with h9 | h9 | h9 | (h9 | h9 | h9) | (h9 | h9 | h9 | h9 | h9 | h9 | h9 | h9)
          · exact .inl (hy 119 h9)
          · exact .inr (.inl (hy 87 h9))
          · exact .inr (.inr (.inl (hy 112 h9)))
          · exact .inr (.inr (.inr (.inl (hy 34 h9))))
          · exact .inr (.inr (.inr (.inr (.inl (hy 39 h9)))))
          · exact .inr (.inr (.inr (.inr (.inr (.inl (hy 96 h9))))))
          · exact .inr (.inr (.inr (.inr (.inr (.inr (.inl (hy 40 h9)))))))
          · exact .inr (.inr (.inr (.inr (.inr (.inr (.inr (.inl (hy 41 h9))))))))
          · exact .inr (.inr (.inr (.inr (.inr (.inr (.inr (.inr (.inl (hy 98 h9)))))))))
          · exact .inr (.inr (.inr (.inr (.inr (.inr (.inr (.inr (.inr (.inl (hy 91 h9))))))))))
          · exact .inr (.inr (.inr (.inr (.inr (.inr (.inr (.inr (.inr (.inr (.inl (hy 93 h9)))))))))))
          · exact .inr (.inr (.inr (.inr (.inr (.inr (.inr (.inr (.inr (.inr (.inr (.inl (hy 123 h9))))))))))))
          · exact .inr (.inr (.inr (.inr (.inr (.inr (.inr (.inr (.inr (.inr (.inr (.inr (.inl (hy 125 h9)))))))))))))
          · exact .inr (.inr (.inr (.inr (.inr (.inr (.inr (.inr (.inr (.inr (.inr (.inr (.inr (hy 66 h9))))))))))))))
        unfold isS isB at hne
        have C19 := Hid.mk' (kept_any (y.toNat : Int))
        have eo : op9 (y.toNat : Int) = 0 := op9_no (by unfold isB; omega)
        rw [eo] at C19
        generalize cp9 (y.toNat : Int) = cc at *
        have t1 : ((y.toNat : Int) == 119) = false := by rw [beq_eq_false_iff_ne]; omega
        have t2 : ((y.toNat : Int) == 87) = false := by rw [beq_eq_false_iff_ne]; omega
        have t3 : ((y.toNat : Int) == 112) = false := by rw [beq_eq_false_iff_ne]; omega
        have t4 : ((y.toNat : Int) == 34) = false := by rw [beq_eq_false_iff_ne]; omega
        have t5 : ((y.toNat : Int) == 39) = false := by rw [beq_eq_false_iff_ne]; omega
        have t6 : ((y.toNat : Int) == 96) = false := by rw [beq_eq_false_iff_ne]; omega
        have hx5 : (((x.toNat : Int) != 105) = true ∧ ((x.toNat : Int) != 97) = false) ∨ ((x.toNat : Int) != 105) = false := by
          rcases g1 with h | h
          · right; rw [h]; rfl
          · left; rw [h]; exact ⟨rfl, rfl⟩
        clear hne g1 g2 eo
        rcases hx5 with ⟨hx6, hx7⟩ | hx6
        all_goals go_enter Try.func9, Try.ntmps9
        all_goals go_wp2_with (first | (go_at_call 16; refine (C16.out _ (bAlloc (Below.refl _ _) _)).mono ?_; rintro e w' ⟨rfl, hw⟩; have hq9 := hw.symm; subst hq9; clear hw) | (go_at_call 17; refine (C17.out _ (bAlloc (Below.refl _ _) _)).mono ?_; rintro e w' ⟨rfl, hw⟩; have hq9 := hw.symm; subst hq9; clear hw) | (go_at_call 18; refine (C18.out _ (bAlloc (Below.refl _ _) _)).mono ?_; rintro e w' ⟨rfl, hw⟩; have hq9 := hw.symm; subst hq9; clear hw) | (go_at_call 19; refine (C19.out _).mono ?_; rintro e w' ⟨rfl, hw⟩; have hq9 := hw.symm; subst hq9; clear hw))
        all_goals exact bodyPost_ret (v := .tuple #[.agg #[.int .i64 0, .int .i64 0, .int .i64 0], .int .i64 2]) (by simp [results, Try.results9, go_sem]) rfl ⟨rfl, bAlloc (bAlloc (Below.refl _ _) _) _⟩
end Go.Proofs.Ytgdhdegmjljbfaa
