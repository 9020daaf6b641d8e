/- The reference's Select, asked for a word. -/
import Derived.Test.YtgdhdegmjljbfaaRsl
namespace Go.Proofs.Ytgdhdegmjljbfaa
open Go.RowKit
set_option maxRecDepth 8000 in
set_option maxHeartbeats 16000000 in
theorem rselect_w (ao : Option Addr) (n c k cnt : Nat) (x y : UInt8) (a : Bool) (l : List UInt8) (w : World) (hn : n ≤ 4398046511103) (hq : k ≤ n) (hc1 : 1 ≤ cnt) (hc2 : cnt ≤ 9999) (hx : (x.toNat : Int) = 105 ∨ (x.toNat : Int) = 97) (ha : ((x.toNat : Int) == 97) = a) (big : Bool) (hk : (y.toNat : Int) = kw big) (HT : Hid (Tx w ao n c l)) :
    Calls Try.prog 9 #[.slice ao n c, .int .i64 (k : Int), .int .i64 (cnt : Int), .string ⟨#[x, y]⟩] w fun e w' => e = sr (cx (wl l k big) (ix (wl l k big) k) cnt a) ∧ Below w.heap.size w w' := by
  have hlen := HT.out.len
  have HBE : Hid (sp l (nl (l.take k)) = bg l k) := sp_of l k (by omega)
  have hX0 := nl_take_le l k
  have C16 := Hid.mk' (fun W (hb : Below w.heap.size w W) => rof_at hq (HT.out.keep hb))
  have C17 := Hid.mk' (fun W (hb : Below w.heap.size w W) => rstart_at hX0 (HT.out.keep hb))
  have C18 := Hid.mk' (fun W (hb : Below w.heap.size w W) => rend_at hX0 (HT.out.keep hb))
  rw [HBE.out] at C17 C18
  have C19 := Hid.mk' (kept_any (y.toNat : Int))
  have hx0 : (((⟨#[x, y]⟩ : ByteArray)[0]'(by show 0 < 2; omega)).toNat : Int) = (x.toNat : Int) := rfl
  have hx1 : (((⟨#[x, y]⟩ : ByteArray)[1]'(by show 1 < 2; omega)).toNat : Int) = (y.toNat : Int) := rfl
  have hs : (⟨#[x, y]⟩ : ByteArray).size = 2 := rfl
  have h1 : (0 : Int) ≤ (k : Int) := by omega
  have h2 : (k : Int) ≤ (n : Int) := by omega
  have h3 : (1 : Int) ≤ (cnt : Int) := by omega
  have h4 : (cnt : Int) ≤ 9999 := by omega
  have hx5 : (((x.toNat : Int) != 105) = true ∧ ((x.toNat : Int) != 97) = false) ∨ ((x.toNat : Int) != 105) = false := by
    rcases hx with h | h
    · right; rw [h]; rfl
    · left; rw [h]; exact ⟨rfl, rfl⟩
  have HWL := Hid.mk' (wr9_wl l k big)
  have CW := Hid.mk' (fun W (hb : Below w.heap.size w W) => words_any ao n c (bg l k) (en l (bg l k)) big l W hn (en_ge _ _) (by have := en_le (t := l) (s := bg l k) (by have := bg_le l k; omega); omega) (HT.out.keep hb))
  rw [HWL.out] at CW
  have hR : (wl l k big).length ≤ 4398046511104 := by have := wl_len l k big; omega
  have hI := wl_hold l k big (by omega)
  have hap := wl_apart l k big
  obtain ⟨r, Hr⟩ : ∃ r, Hid (cx (wl l k big) (ix (wl l k big) k) cnt a = r) := ⟨_, rfl⟩
  rw [Hr.out]
  have CC : Hid (∀ W base ao' c', W.ownsRow base 48 3 (.slice ao' (wl l k big).length c') (wl l k big).length (rvs (wl l k big)) → Calls Try.prog (if a then 21 else 22) #[.slice ao' (wl l k big).length c', .int .i64 (k : Int), .int .i64 (cnt : Int)] W fun e w' => e = ra r ∧ Below W.heap.size W w') := by
    intro W base ao' c' ho
    rw [← Hr.out]
    cases a with
    | true => exact raround_any base ao' c' (wl l k big) k cnt (ix (wl l k big) k) W hR hc1 hc2 (ix_fst _ _) hI hap ho
    | false => exact inner_any base ao' c' (wl l k big) k cnt (ix (wl l k big) k) W hR hc1 hc2 (ix_fst _ _) hI ho
  have hkk : (big = true ∧ ((y.toNat : Int) == 119) = false ∧ ((y.toNat : Int) == 87) = true) ∨ (big = false ∧ ((y.toNat : Int) == 119) = true ∧ ((y.toNat : Int) == 87) = false) := by
    rw [hk]; cases big; exact .inr ⟨rfl, rfl, rfl⟩; exact .inl ⟨rfl, rfl, rfl⟩
  clear hI hap Hr HWL hk
  generalize wl l k big = R at *
  have BB : Hid (Below w.heap.size w ((w.alloc (.cells #[.int .i64 0, .int .i64 0, .int .i64 0] 29)).alloc (.cells #[.int .i64 0, .int .i64 0, .bool false] 48))) := bAlloc (bAlloc (Below.refl _ _) _) _
  have KA := Hid.mk' ((Blk.new w 29 #[.int .i64 0, .int .i64 0, .int .i64 0]).keep (bAlloc (Below.refl _ _) (.cells #[.int .i64 0, .int .i64 0, .bool false] 48)))
  have KR := Hid.mk' (Blk.new (w.alloc (.cells #[.int .i64 0, .int .i64 0, .int .i64 0] 29)) 48 #[.int .i64 0, .int .i64 0, .bool false])
  rw [World.size_alloc] at KR
  clear hx
  cases a with
  | true =>
    simp only [if_true] at CC
    cases r with
    | none =>
      have HR : Hid (sr none = tg 0 0 0 130) := rfl
      unfold ra at CC
      simp only at CC
      rcases hx5 with ⟨hx6, hx7⟩ | hx6 <;> rcases hkk with ⟨rfl, s1, s2⟩ | ⟨rfl, s1, s2⟩
      all_goals go_enter Try.func9, Try.ntmps9
      all_goals go_wp2_with (first | (go_at_call 16; refine (C16.out _ (by first | exact bAlloc (Below.refl _ _) _ | exact Below.refl _ _)).mono ?_; rintro e w' ⟨rfl, hw⟩; have hq9 := hw.symm; subst hq9; clear hw) | (go_at_call 17; refine (C17.out _ (bAlloc (Below.refl _ _) _)).mono ?_; rintro e w' ⟨rfl, hw⟩; have hq9 := hw.symm; subst hq9; clear hw) | (go_at_call 18; refine (C18.out _ (bAlloc (Below.refl _ _) _)).mono ?_; rintro e w' ⟨rfl, hw⟩; have hq9 := hw.symm; subst hq9; clear hw) | (go_at_call 19; refine (C19.out _).mono ?_; rintro e w' ⟨rfl, hw⟩; have hq9 := hw.symm; subst hq9; clear hw))
      all_goals (
        refine (CW.out _ BB.out).mono ?_
        rintro e w3 ⟨v3, rfl, ho3, hb3⟩
        obtain ⟨a3, c3, e3⟩ := own_shape ho3
        subst e3
        have O3 := Hid.mk' ho3
        have KA3 := Hid.mk' (KA.out.keep hb3)
        have KR3 := Hid.mk' (KR.out.keep hb3)
        have B3 := Hid.mk' (bT BB.out hb3)
        clear hb3 ho3
        go_wp2_with fail
        refine (CC.out _ _ _ _ O3.out).mono ?_
        rintro e w4 ⟨rfl, hb4⟩
        have KA4 := Hid.mk' (KA3.out.keep hb4)
        have KR4 := Hid.mk' (KR3.out.keep hb4)
        have B4 := Hid.mk' (bT B3.out hb4)
        have k0 : w4.cell? ⟨w.heap.size, 0, none⟩ = some (.int .i64 0) := KA4.out.cell (j := 0) rfl
        have k1' : w4.cell? ⟨w.heap.size, 1, none⟩ = some (.int .i64 0) := KA4.out.cell (j := 1) rfl
        have k2' : w4.cell? ⟨w.heap.size, 2, none⟩ = some (.int .i64 0) := KA4.out.cell (j := 2) rfl
        have f9 := KA4.out.frozen
        have r0 : w4.cell? ⟨w.heap.size + 1, 0, none⟩ = some (.int .i64 0) := KR4.out.cell (j := 0) rfl
        have r1 : w4.cell? ⟨w.heap.size + 1, 1, none⟩ = some (.int .i64 0) := KR4.out.cell (j := 1) rfl
        have r2 : w4.cell? ⟨w.heap.size + 1, 2, none⟩ = some (.bool false) := KR4.out.cell (j := 2) rfl
        have f8 := KR4.out.frozen
        clear hb4
        go_wp2
        exact bodyPost_ret (v := .tuple #[.agg #[.int .i64 0, .int .i64 0, .int .i64 0], .int .i64 130]) (by simp [results, Try.results9, go_sem, k0, k1', k2']) rfl ⟨by rw [HR.out]; rfl, bset (bset (bset (bset (bset (bset B4.out _ (Nat.le_succ _)) _ (Nat.le_succ _)) _ (Nat.le_succ _)) _ (Nat.le_refl _)) _ (Nat.le_refl _)) _ (Nat.le_refl _)⟩)
    | some uv =>
      obtain ⟨u, v⟩ := uv
      have HR : Hid (sr (some (u, v)) = tg (u : Int) (v : Int) 1 0) := rfl
      unfold ra at CC
      simp only at CC
      rcases hx5 with ⟨hx6, hx7⟩ | hx6 <;> rcases hkk with ⟨rfl, s1, s2⟩ | ⟨rfl, s1, s2⟩
      all_goals go_enter Try.func9, Try.ntmps9
      all_goals go_wp2_with (first | (go_at_call 16; refine (C16.out _ (by first | exact bAlloc (Below.refl _ _) _ | exact Below.refl _ _)).mono ?_; rintro e w' ⟨rfl, hw⟩; have hq9 := hw.symm; subst hq9; clear hw) | (go_at_call 17; refine (C17.out _ (bAlloc (Below.refl _ _) _)).mono ?_; rintro e w' ⟨rfl, hw⟩; have hq9 := hw.symm; subst hq9; clear hw) | (go_at_call 18; refine (C18.out _ (bAlloc (Below.refl _ _) _)).mono ?_; rintro e w' ⟨rfl, hw⟩; have hq9 := hw.symm; subst hq9; clear hw) | (go_at_call 19; refine (C19.out _).mono ?_; rintro e w' ⟨rfl, hw⟩; have hq9 := hw.symm; subst hq9; clear hw))
      all_goals (
        refine (CW.out _ BB.out).mono ?_
        rintro e w3 ⟨v3, rfl, ho3, hb3⟩
        obtain ⟨a3, c3, e3⟩ := own_shape ho3
        subst e3
        have O3 := Hid.mk' ho3
        have KA3 := Hid.mk' (KA.out.keep hb3)
        have KR3 := Hid.mk' (KR.out.keep hb3)
        have B3 := Hid.mk' (bT BB.out hb3)
        clear hb3 ho3
        go_wp2_with fail
        refine (CC.out _ _ _ _ O3.out).mono ?_
        rintro e w4 ⟨rfl, hb4⟩
        have KA4 := Hid.mk' (KA3.out.keep hb4)
        have KR4 := Hid.mk' (KR3.out.keep hb4)
        have B4 := Hid.mk' (bT B3.out hb4)
        have k0 : w4.cell? ⟨w.heap.size, 0, none⟩ = some (.int .i64 0) := KA4.out.cell (j := 0) rfl
        have k1' : w4.cell? ⟨w.heap.size, 1, none⟩ = some (.int .i64 0) := KA4.out.cell (j := 1) rfl
        have k2' : w4.cell? ⟨w.heap.size, 2, none⟩ = some (.int .i64 0) := KA4.out.cell (j := 2) rfl
        have f9 := KA4.out.frozen
        have r0 : w4.cell? ⟨w.heap.size + 1, 0, none⟩ = some (.int .i64 0) := KR4.out.cell (j := 0) rfl
        have r1 : w4.cell? ⟨w.heap.size + 1, 1, none⟩ = some (.int .i64 0) := KR4.out.cell (j := 1) rfl
        have r2 : w4.cell? ⟨w.heap.size + 1, 2, none⟩ = some (.bool false) := KR4.out.cell (j := 2) rfl
        have f8 := KR4.out.frozen
        clear hb4
        go_wp2
        exact bodyPost_ret (v := .tuple #[.agg #[.int .i64 (u : Int), .int .i64 (v : Int), .int .i64 1], .int .i64 0]) (by simp [results, Try.results9, go_sem, k0, k1', k2']) rfl ⟨by rw [HR.out]; rfl, bset (bset (bset (bset (bset (bset B4.out _ (Nat.le_succ _)) _ (Nat.le_succ _)) _ (Nat.le_succ _)) _ (Nat.le_refl _)) _ (Nat.le_refl _)) _ (Nat.le_refl _)⟩)
  | false =>
    simp only [Bool.false_eq_true, if_false] at CC
    cases r with
    | none =>
      have HR : Hid (sr none = tg 0 0 0 130) := rfl
      unfold ra at CC
      simp only at CC
      rcases hx5 with ⟨hx6, hx7⟩ | hx6 <;> rcases hkk with ⟨rfl, s1, s2⟩ | ⟨rfl, s1, s2⟩
      all_goals go_enter Try.func9, Try.ntmps9
      all_goals go_wp2_with (first | (go_at_call 16; refine (C16.out _ (by first | exact bAlloc (Below.refl _ _) _ | exact Below.refl _ _)).mono ?_; rintro e w' ⟨rfl, hw⟩; have hq9 := hw.symm; subst hq9; clear hw) | (go_at_call 17; refine (C17.out _ (bAlloc (Below.refl _ _) _)).mono ?_; rintro e w' ⟨rfl, hw⟩; have hq9 := hw.symm; subst hq9; clear hw) | (go_at_call 18; refine (C18.out _ (bAlloc (Below.refl _ _) _)).mono ?_; rintro e w' ⟨rfl, hw⟩; have hq9 := hw.symm; subst hq9; clear hw) | (go_at_call 19; refine (C19.out _).mono ?_; rintro e w' ⟨rfl, hw⟩; have hq9 := hw.symm; subst hq9; clear hw))
      all_goals (
        refine (CW.out _ BB.out).mono ?_
        rintro e w3 ⟨v3, rfl, ho3, hb3⟩
        obtain ⟨a3, c3, e3⟩ := own_shape ho3
        subst e3
        have O3 := Hid.mk' ho3
        have KA3 := Hid.mk' (KA.out.keep hb3)
        have KR3 := Hid.mk' (KR.out.keep hb3)
        have B3 := Hid.mk' (bT BB.out hb3)
        clear hb3 ho3
        go_wp2_with fail
        refine (CC.out _ _ _ _ O3.out).mono ?_
        rintro e w4 ⟨rfl, hb4⟩
        have KA4 := Hid.mk' (KA3.out.keep hb4)
        have KR4 := Hid.mk' (KR3.out.keep hb4)
        have B4 := Hid.mk' (bT B3.out hb4)
        have k0 : w4.cell? ⟨w.heap.size, 0, none⟩ = some (.int .i64 0) := KA4.out.cell (j := 0) rfl
        have k1' : w4.cell? ⟨w.heap.size, 1, none⟩ = some (.int .i64 0) := KA4.out.cell (j := 1) rfl
        have k2' : w4.cell? ⟨w.heap.size, 2, none⟩ = some (.int .i64 0) := KA4.out.cell (j := 2) rfl
        have f9 := KA4.out.frozen
        have r0 : w4.cell? ⟨w.heap.size + 1, 0, none⟩ = some (.int .i64 0) := KR4.out.cell (j := 0) rfl
        have r1 : w4.cell? ⟨w.heap.size + 1, 1, none⟩ = some (.int .i64 0) := KR4.out.cell (j := 1) rfl
        have r2 : w4.cell? ⟨w.heap.size + 1, 2, none⟩ = some (.bool false) := KR4.out.cell (j := 2) rfl
        have f8 := KR4.out.frozen
        clear hb4
        go_wp2
        exact bodyPost_ret (v := .tuple #[.agg #[.int .i64 0, .int .i64 0, .int .i64 0], .int .i64 130]) (by simp [results, Try.results9, go_sem, k0, k1', k2']) rfl ⟨by rw [HR.out]; rfl, bset (bset (bset (bset (bset (bset B4.out _ (Nat.le_succ _)) _ (Nat.le_succ _)) _ (Nat.le_succ _)) _ (Nat.le_refl _)) _ (Nat.le_refl _)) _ (Nat.le_refl _)⟩)
    | some uv =>
      obtain ⟨u, v⟩ := uv
      have HR : Hid (sr (some (u, v)) = tg (u : Int) (v : Int) 1 0) := rfl
      unfold ra at CC
      simp only at CC
      rcases hx5 with ⟨hx6, hx7⟩ | hx6 <;> rcases hkk with ⟨rfl, s1, s2⟩ | ⟨rfl, s1, s2⟩
      all_goals go_enter Try.func9, Try.ntmps9
      all_goals go_wp2_with (first | (go_at_call 16; refine (C16.out _ (by first | exact bAlloc (Below.refl _ _) _ | exact Below.refl _ _)).mono ?_; rintro e w' ⟨rfl, hw⟩; have hq9 := hw.symm; subst hq9; clear hw) | (go_at_call 17; refine (C17.out _ (bAlloc (Below.refl _ _) _)).mono ?_; rintro e w' ⟨rfl, hw⟩; have hq9 := hw.symm; subst hq9; clear hw) | (go_at_call 18; refine (C18.out _ (bAlloc (Below.refl _ _) _)).mono ?_; rintro e w' ⟨rfl, hw⟩; have hq9 := hw.symm; subst hq9; clear hw) | (go_at_call 19; refine (C19.out _).mono ?_; rintro e w' ⟨rfl, hw⟩; have hq9 := hw.symm; subst hq9; clear hw))
      all_goals (
        refine (CW.out _ BB.out).mono ?_
        rintro e w3 ⟨v3, rfl, ho3, hb3⟩
        obtain ⟨a3, c3, e3⟩ := own_shape ho3
        subst e3
        have O3 := Hid.mk' ho3
        have KA3 := Hid.mk' (KA.out.keep hb3)
        have KR3 := Hid.mk' (KR.out.keep hb3)
        have B3 := Hid.mk' (bT BB.out hb3)
        clear hb3 ho3
        go_wp2_with fail
        refine (CC.out _ _ _ _ O3.out).mono ?_
        rintro e w4 ⟨rfl, hb4⟩
        have KA4 := Hid.mk' (KA3.out.keep hb4)
        have KR4 := Hid.mk' (KR3.out.keep hb4)
        have B4 := Hid.mk' (bT B3.out hb4)
        have k0 : w4.cell? ⟨w.heap.size, 0, none⟩ = some (.int .i64 0) := KA4.out.cell (j := 0) rfl
        have k1' : w4.cell? ⟨w.heap.size, 1, none⟩ = some (.int .i64 0) := KA4.out.cell (j := 1) rfl
        have k2' : w4.cell? ⟨w.heap.size, 2, none⟩ = some (.int .i64 0) := KA4.out.cell (j := 2) rfl
        have f9 := KA4.out.frozen
        have r0 : w4.cell? ⟨w.heap.size + 1, 0, none⟩ = some (.int .i64 0) := KR4.out.cell (j := 0) rfl
        have r1 : w4.cell? ⟨w.heap.size + 1, 1, none⟩ = some (.int .i64 0) := KR4.out.cell (j := 1) rfl
        have r2 : w4.cell? ⟨w.heap.size + 1, 2, none⟩ = some (.bool false) := KR4.out.cell (j := 2) rfl
        have f8 := KR4.out.frozen
        clear hb4
        go_wp2
        exact bodyPost_ret (v := .tuple #[.agg #[.int .i64 (u : Int), .int .i64 (v : Int), .int .i64 1], .int .i64 0]) (by simp [results, Try.results9, go_sem, k0, k1', k2']) rfl ⟨by rw [HR.out]; rfl, bset (bset (bset (bset (bset (bset B4.out _ (Nat.le_succ _)) _ (Nat.le_succ _)) _ (Nat.le_succ _)) _ (Nat.le_refl _)) _ (Nat.le_refl _)) _ (Nat.le_refl _)⟩)
end Go.Proofs.Ytgdhdegmjljbfaa
