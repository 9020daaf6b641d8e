/- The reference's Select, asked for a paragraph. -/
import Derived.Test.YtgdhdegmjljbfaaRsl
namespace Go.Proofs.Ytgdhdegmjljbfaa
open Go.RowKit
set_option maxRecDepth 8000 in
set_option maxHeartbeats 16000000 in
theorem rselect_p (ao : Option Addr) (n c k cnt : Nat) (x y : UInt8) (a : Bool) (l : List UInt8) (w : World) (hn : n ≤ 4398046511103) (hq : k ≤ n) (hc1 : 1 ≤ cnt) (hc2 : cnt ≤ 9999) (hx : (x.toNat : Int) = 105 ∨ (x.toNat : Int) = 97) (ha : ((x.toNat : Int) == 97) = a) (hk : (y.toNat : Int) = 112) (HT : Hid (Tx w ao n c l)) :
    Calls Try.prog 9 #[.slice ao n c, .int .i64 (k : Int), .int .i64 (cnt : Int), .string ⟨#[x, y]⟩] w fun e w' => e = sel l k cnt 112 a ∧ Below w.heap.size w w' := by
  have hlen := HT.out.len
  have HBE : Hid (sp l (nl (l.take k)) = bg l k) := sp_of l k (by omega)
  have hX0 := nl_take_le l k
  have C16 := Hid.mk' (fun W (hb : Below w.heap.size w W) => rof_at hq (HT.out.keep hb))
  have C17 := Hid.mk' (fun W (hb : Below w.heap.size w W) => rstart_at hX0 (HT.out.keep hb))
  have C18 := Hid.mk' (fun W (hb : Below w.heap.size w W) => rend_at hX0 (HT.out.keep hb))
  rw [HBE.out] at C17 C18
  have C19 := Hid.mk' (kept_any (y.toNat : Int))
  have hx0 : (((⟨#[x, y]⟩ : ByteArray)[0]'(by show 0 < 2; omega)).toNat : Int) = (x.toNat : Int) := rfl
  have hx1 : (((⟨#[x, y]⟩ : ByteArray)[1]'(by show 1 < 2; omega)).toNat : Int) = (y.toNat : Int) := rfl
  have hs : (⟨#[x, y]⟩ : ByteArray).size = 2 := rfl
  have h1 : (0 : Int) ≤ (k : Int) := by omega
  have h2 : (k : Int) ≤ (n : Int) := by omega
  have h3 : (1 : Int) ≤ (cnt : Int) := by omega
  have h4 : (cnt : Int) ≤ 9999 := by omega
  have hx5 : (((x.toNat : Int) != 105) = true ∧ ((x.toNat : Int) != 97) = false) ∨ ((x.toNat : Int) != 105) = false := by
    rcases hx with h | h
    · right; rw [h]; rfl
    · left; rw [h]; exact ⟨rfl, rfl⟩
  have CC := Hid.mk' (fun W (hb : Below w.heap.size w W) => paragraph_any ao n c k cnt a l W hn hq hc1 hc2 (HT.out.keep hb))
  obtain ⟨F, T, K, E, HS⟩ : ∃ F T K E : Int, Hid (sel l k cnt 112 a = tg F T K E) := ⟨_, _, _, _, sel_s4 l k cnt 112 a⟩
  rw [HS.out] at CC ⊢
  have HR : Hid (tg F T K E = .returned (.tuple #[.agg #[.int .i64 F, .int .i64 T, .int .i64 K], .int .i64 E])) := rfl
  unfold tg at CC
  have t1 : ((y.toNat : Int) == 119) = false := by rw [hk]; rfl
  have t2 : ((y.toNat : Int) == 87) = false := by rw [hk]; rfl
  have t3 : ((y.toNat : Int) == 112) = true := by rw [hk]; rfl
  have BB : Hid (Below w.heap.size w ((w.alloc (.cells #[.int .i64 0, .int .i64 0, .int .i64 0] 29)).alloc (.cells #[.int .i64 0, .int .i64 0, .bool false] 48))) := bAlloc (bAlloc (Below.refl _ _) _) _
  have KA := Hid.mk' ((Blk.new w 29 #[.int .i64 0, .int .i64 0, .int .i64 0]).keep (bAlloc (Below.refl _ _) (.cells #[.int .i64 0, .int .i64 0, .bool false] 48)))
  have KR := Hid.mk' (Blk.new (w.alloc (.cells #[.int .i64 0, .int .i64 0, .int .i64 0] 29)) 48 #[.int .i64 0, .int .i64 0, .bool false])
  rw [World.size_alloc] at KR
  clear hx hk
  rcases hx5 with ⟨hx6, hx7⟩ | hx6
  all_goals go_enter Try.func9, Try.ntmps9
  all_goals go_wp2_with (first | (go_at_call 16; refine (C16.out _ (by first | exact bAlloc (Below.refl _ _) _ | exact Below.refl _ _)).mono ?_; rintro e w' ⟨rfl, hw⟩; have hq9 := hw.symm; subst hq9; clear hw) | (go_at_call 17; refine (C17.out _ (bAlloc (Below.refl _ _) _)).mono ?_; rintro e w' ⟨rfl, hw⟩; have hq9 := hw.symm; subst hq9; clear hw) | (go_at_call 18; refine (C18.out _ (bAlloc (Below.refl _ _) _)).mono ?_; rintro e w' ⟨rfl, hw⟩; have hq9 := hw.symm; subst hq9; clear hw) | (go_at_call 19; refine (C19.out _).mono ?_; rintro e w' ⟨rfl, hw⟩; have hq9 := hw.symm; subst hq9; clear hw))
  all_goals (
    refine (CC.out _ BB.out).mono ?_
    rintro e w4 ⟨rfl, hb4⟩
    have KA4 := Hid.mk' (KA.out.keep hb4)
    have KR4 := Hid.mk' (KR.out.keep hb4)
    have B4 := Hid.mk' (bT BB.out hb4)
    have k0 : w4.cell? ⟨w.heap.size, 0, none⟩ = some (.int .i64 0) := KA4.out.cell (j := 0) rfl
    have k1' : w4.cell? ⟨w.heap.size, 1, none⟩ = some (.int .i64 0) := KA4.out.cell (j := 1) rfl
    have k2' : w4.cell? ⟨w.heap.size, 2, none⟩ = some (.int .i64 0) := KA4.out.cell (j := 2) rfl
    have f9 := KA4.out.frozen
    have r0 : w4.cell? ⟨w.heap.size + 1, 0, none⟩ = some (.int .i64 0) := KR4.out.cell (j := 0) rfl
    have r1 : w4.cell? ⟨w.heap.size + 1, 1, none⟩ = some (.int .i64 0) := KR4.out.cell (j := 1) rfl
    have r2 : w4.cell? ⟨w.heap.size + 1, 2, none⟩ = some (.bool false) := KR4.out.cell (j := 2) rfl
    have f8 := KR4.out.frozen
    clear hb4
    go_wp2
    exact bodyPost_ret (v := .tuple #[.agg #[.int .i64 F, .int .i64 T, .int .i64 K], .int .i64 E]) (by simp [results, Try.results9, go_sem, k0, k1', k2']) rfl ⟨rfl, bset (bset (bset B4.out _ (Nat.le_refl _)) _ (Nat.le_refl _)) _ (Nat.le_refl _)⟩)
end Go.Proofs.Ytgdhdegmjljbfaa
