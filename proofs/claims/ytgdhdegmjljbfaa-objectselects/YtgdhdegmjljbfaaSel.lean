/- object.Select. -/
import Derived.Test.YtgdhdegmjljbfaaBnd
import Derived.Deep.RegionHeld3
namespace Go.Proofs.Ytgdhdegmjljbfaa
open Go.RowKit
/-- a target and an error -/
def tg (F T K e : Int) : Ending := .returned (.tuple #[.agg #[.int .i64 F, .int .i64 T, .int .i64 K], .int .i64 e])
/-- what Select answers for a key -/
def sel (l : List UInt8) (q n : Nat) (k : Int) (a : Bool) : Ending := match bnd l q n k a with
  | none => tg 0 0 0 130
  | some x => if k = 112 then tg x.1 (bg l (x.2 - 1)) 3 0 else tg x.1 x.2 1 0
theorem bcell {W w1 : World} (hb : Below W.heap.size W w1) : (∀ b o, b < W.heap.size → w1.cell? ⟨b, o, none⟩ = W.cell? ⟨b, o, none⟩) ∧ (∀ b o, b < W.heap.size → w1.frozen? ⟨b, o, none⟩ = W.frozen? ⟨b, o, none⟩) :=
  ⟨fun b o h => hb.cell (p := ⟨b, o, none⟩) h, fun b o h => hb.frozen (p := ⟨b, o, none⟩) h⟩
theorem bset {w W : World} (h : Below w.heap.size w W) {a : Addr} (v : Value) (ha : w.heap.size ≤ a.block) : Below w.heap.size w (W.setCell a v) := h.setCell ha v
theorem cx_some {R : List Rn3} {i n : Nat} {a : Bool} {x : Nat × Nat} (hi : i ≤ R.length) (h : cx R i n a = some x) : ∃ A B, cho R i n a = some (A, B) ∧ A ≤ i ∧ i ≤ A + 1 ∧ i + n ≤ B ∧ B ≤ R.length ∧ x = (fr R A, tt R (B - 1)) := by
  unfold cx at h
  cases hc : cho R i n a with
  | none => rw [hc] at h; cases h
  | some AB =>
    obtain ⟨A, B⟩ := AB
    rw [hc] at h
    have := cho_le hi hc
    exact ⟨A, B, rfl, this.1, this.2.1, this.2.2.1, this.2.2.2, by simpa using h.symm⟩
theorem bnd_p {l : List UInt8} {q n : Nat} {a : Bool} {u v : Nat} (hn : 1 ≤ n) (h : bnd l q n 112 a = some (u, v)) : 1 ≤ v ∧ v ≤ l.length + 1 := by
  have e : bnd l q n 112 a = cx (pl l) (ix (pl l) q) n a := rfl
  rw [e] at h
  obtain ⟨A, B, _, _, _, h1, h2, h3⟩ := cx_some (ix_fst (pl l) q).le h
  injection h3 with h3 h4
  have hB : B - 1 < rm (ek l) (nl l + 1) := by
    have : (pl l).length = rm (ek l) (nl l + 1) := rl_len ..
    omega
  have h5 : tt (pl l) (B - 1) = ls9 l (re (ek l) (nl l + 1) (B - 1)) := by
    unfold tt
    rw [show (pl l)[B - 1]? = _ from rl_at (ls9 l) (eg l) hB]
    rfl
  rw [h5] at h4
  have h6 := ls9_le (l := l) (re (ek l) (nl l + 1) (B - 1))
  have h7 := (run_at hB).up
  refine ⟨?_, by omega⟩
  rw [h4]
  have h8 : re (ek l) (nl l + 1) (B - 1) = (re (ek l) (nl l + 1) (B - 1) - 1) + 1 := by omega
  have h9 := (run_at hB).le
  rw [h8, ls9_next (by omega)]
  omega
/-- the result's block keeps its three noughts -/
theorem tgt_cells {w w1 : World} {a b c : Value} {e : Nat} (hb : Below (w.alloc (.cells #[a, b, c] e)).drew.heap.size (w.alloc (.cells #[a, b, c] e)).drew w1) :
    w1.cell? ⟨w.heap.size, 0, none⟩ = some a ∧ w1.cell? ⟨w.heap.size, 1, none⟩ = some b ∧ w1.cell? ⟨w.heap.size, 2, none⟩ = some c ∧ w1.frozen? ⟨w.heap.size, 0, none⟩ = false ∧ w1.frozen? ⟨w.heap.size, 1, none⟩ = false ∧ w1.frozen? ⟨w.heap.size, 2, none⟩ = false := by
  obtain ⟨h1, h2⟩ := bcell hb
  have hs : w.heap.size < (w.alloc (.cells #[a, b, c] e)).drew.heap.size := by simp
  refine ⟨?_, ?_, ?_, ?_, ?_, ?_⟩
  · rw [h1 _ _ hs]; simp
  · rw [h1 _ _ hs]; simp
  · rw [h1 _ _ hs]; simp
  · rw [h2 _ _ hs]; simp
  · rw [h2 _ _ hs]; simp
  · rw [h2 _ _ hs]; simp
set_option maxRecDepth 8000 in
set_option maxHeartbeats 8000000 in
theorem select_yes (ao : Option Addr) (n c q cnt : Nat) (x y : UInt8) (a : Bool) (l : List UInt8) (w : World) (hn : n ≤ 4398046511103) (hq : q ≤ n) (hc1 : 1 ≤ cnt) (hc2 : cnt ≤ 9999) (hx : ky x y = true) (ha : ((x.toNat : Int) == 97) = a) (hk : isS (y.toNat : Int)) (HT : Hid (Tx w ao n c l)) :
    Calls Try.prog 10 #[.slice ao n c, .int .i64 (q : Int), .int .i64 (cnt : Int), .string ⟨#[x, y]⟩] w fun e w' => e = sel l q cnt (y.toNat : Int) a ∧ Below w.heap.size w w' := by
  have hl := HT.out.len
  have CK := Hid.mk' (isKey_two x y)
  rw [hx] at CK
  have CB := Hid.mk' (fun W (hb : Below w.heap.size w W) => bounds_any ao n c q cnt (y.toNat : Int) a l W hn hq hc1 hc2 hk (HT.out.keep hb))
  have HS : Hid (sel l q cnt (y.toNat : Int) a = match bnd l q cnt (y.toNat : Int) a with | none => tg 0 0 0 130 | some x => if (y.toNat : Int) = 112 then tg x.1 (bg l (x.2 - 1)) 3 0 else tg x.1 x.2 1 0) := rfl
  have HPV : Hid (∀ u v, bnd l q cnt (y.toNat : Int) a = some (u, v) → (y.toNat : Int) = 112 → 1 ≤ v ∧ v ≤ n + 1) := fun u v h1 h2 => by rw [h2] at h1; have := bnd_p hc1 h1; omega
  generalize bnd l q cnt (y.toNat : Int) a = r at *
  have hx0 : (((⟨#[x, y]⟩ : ByteArray)[0]'(by show 0 < 2; omega)).toNat : Int) = (x.toNat : Int) := rfl
  have hx1 : (((⟨#[x, y]⟩ : ByteArray)[1]'(by show 1 < 2; omega)).toNat : Int) = (y.toNat : Int) := rfl
  have hs : (⟨#[x, y]⟩ : ByteArray).size = 2 := rfl
  have h1 : (0 : Int) ≤ (q : Int) := by omega
  have h2 : (q : Int) ≤ (n : Int) := by omega
  have h3 : (1 : Int) ≤ (cnt : Int) := by omega
  have h4 : (cnt : Int) ≤ 9999 := by omega
  clear hx hk
  cases r with
  | none =>
    have HF : Hid (sel l q cnt (y.toNat : Int) a = tg 0 0 0 130) := HS.out
    unfold oa at CB
    simp only [Option.isSome_none, Option.getD_none] at CB
    go_enter Try.func10, Try.ntmps10
    go_wp2_with (go_at_call 26; refine (CK.out _).mono ?_; rintro e w' ⟨rfl, hw⟩; have hq := hw.symm; subst hq; clear hw)
    go_region_held3 (fun _ => True) (trivial) (first | (go_at_call 27; refine (CB.out _ (bAlloc (Below.refl _ _) _).drew).mono ?_; rintro e w1 ⟨rfl, hb1⟩; obtain ⟨k0, k1', k2', f0, f1, f2⟩ := tgt_cells hb1; have B1 := Hid.mk' (bT (bAlloc (Below.refl _ _) _).drew hb1); have hz : w.heap.size < w1.heap.size := (by have := hb1.size; simp at this; omega); clear hb1; have hS2 : True := trivial) | fail)
    all_goals try go_wp2
    all_goals exact bodyPost_ret (v := .tuple #[.agg #[.int .i64 0, .int .i64 0, .int .i64 0], .int .i64 130]) (by simp [results, Try.results10, go_sem, k0, k1', k2']) rfl ⟨by rw [HF.out]; rfl, bset (bset (bset B1.out _ (Nat.le_refl _)) _ (Nat.le_refl _)) _ (Nat.le_refl _)⟩
  | some uv =>
    obtain ⟨u, v⟩ := uv
    unfold oa at CB
    simp only [Option.isSome_some, Option.getD_some] at CB
    by_cases hp : (y.toNat : Int) = 112
    · have hp1 : ((y.toNat : Int) == 112) = true := by simp [hp]
      have HF : Hid (sel l q cnt (y.toNat : Int) a = tg u (bg l (v - 1)) 3 0) := by unfold Hid; rw [HS.out]; simp only; rw [if_pos hp]
      obtain ⟨hv1, hv2⟩ := HPV.out u v rfl hp
      have hw9 : IntKind.i64.wrap ((v : Int) - 1) = ((v - 1 : Nat) : Int) := by rw [IntKind.wrap_i64]; omega
      have CL := Hid.mk' (fun W (hb : Below w.heap.size w W) => lineOf_any ao n c (v - 1) l W (by omega) (HT.out.keep hb))
      generalize v - 1 = v1 at *
      clear hp
      go_enter Try.func10, Try.ntmps10
      go_wp2_with (go_at_call 26; refine (CK.out _).mono ?_; rintro e w' ⟨rfl, hw⟩; have hq := hw.symm; subst hq; clear hw)
      go_region_held3 (fun _ => True) (trivial) (first | (go_at_call 27; refine (CB.out _ (bAlloc (Below.refl _ _) _).drew).mono ?_; rintro e w1 ⟨rfl, hb1⟩; obtain ⟨k0, k1', k2', f0, f1, f2⟩ := tgt_cells hb1; have B1 := Hid.mk' (bT (bAlloc (Below.refl _ _) _).drew hb1); have hz : w.heap.size < w1.heap.size := (by have := hb1.size; simp at this; omega); clear hb1; have hS2 : True := trivial) | fail)
      all_goals go_wp2_with (go_at_call 28; refine (CL.out _ B1.out).mono ?_; rintro e w2 ⟨rfl, hb2⟩; obtain ⟨hc2', hf2'⟩ := bcell hb2; have k0 := (hc2' _ 0 hz).trans k0; have k1' := (hc2' _ 1 hz).trans k1'; have k2' := (hc2' _ 2 hz).trans k2'; have f0 := (hf2' _ 0 hz).trans f0; have f1 := (hf2' _ 1 hz).trans f1; have f2 := (hf2' _ 2 hz).trans f2; have B2 := Hid.mk' (bT B1.out hb2); clear hc2' hf2' hb2)
      all_goals exact bodyPost_ret (v := .tuple #[.agg #[.int .i64 (u : Int), .int .i64 (bg l v1 : Int), .int .i64 3], .int .i64 0]) (by simp [results, Try.results10, go_sem, k0, k1', k2']) rfl ⟨by rw [HF.out]; rfl, bset (bset (bset B2.out _ (Nat.le_refl _)) _ (Nat.le_refl _)) _ (Nat.le_refl _)⟩
    · have hp1 : ((y.toNat : Int) == 112) = false := by simp; omega
      have HF : Hid (sel l q cnt (y.toNat : Int) a = tg u v 1 0) := by unfold Hid; rw [HS.out]; simp only; rw [if_neg hp]
      clear hp
      go_enter Try.func10, Try.ntmps10
      go_wp2_with (go_at_call 26; refine (CK.out _).mono ?_; rintro e w' ⟨rfl, hw⟩; have hq := hw.symm; subst hq; clear hw)
      go_region_held3 (fun _ => True) (trivial) (first | (go_at_call 27; refine (CB.out _ (bAlloc (Below.refl _ _) _).drew).mono ?_; rintro e w1 ⟨rfl, hb1⟩; obtain ⟨k0, k1', k2', f0, f1, f2⟩ := tgt_cells hb1; have B1 := Hid.mk' (bT (bAlloc (Below.refl _ _) _).drew hb1); have hz : w.heap.size < w1.heap.size := (by have := hb1.size; simp at this; omega); clear hb1; have hS2 : True := trivial) | fail)
      all_goals try go_wp2
      all_goals exact bodyPost_ret (v := .tuple #[.agg #[.int .i64 (u : Int), .int .i64 (v : Int), .int .i64 1], .int .i64 0]) (by simp [results, Try.results10, go_sem, k0, k1', k2']) rfl ⟨by rw [HF.out]; rfl, bset (bset (bset B1.out _ (Nat.le_refl _)) _ (Nat.le_refl _)) _ (Nat.le_refl _)⟩
end Go.Proofs.Ytgdhdegmjljbfaa
