/- A line end at the end of a text: bytes.Equal, bytes.HasSuffix, endsLine, withLineEnd. -/
import Derived.Test.YtienamngmalkaaaSml
namespace Go.Proofs.Ytienamngmalkaaa
open Go.RowKit

set_option maxRecDepth 8000
/-- does a text end with a line end -/
def enl (t : List UInt8) : Bool := t.getLastD 0 == 10
theorem enl_nil : enl [] = false := rfl
theorem enl_at {t : List UInt8} (h : 0 < t.length) : enl t = (at8 t (t.length - 1) == 10) := by
  unfold enl
  rw [at8_eq (by omega), List.getLastD_eq_getLast?, List.getLast?_eq_getElem?, List.getElem?_eq_getElem (by omega)]
  rfl
theorem equal_any (a1 a2 : Option Addr) (n1 n2 c1 c2 : Nat) (l m : List UInt8) (w : World) (T1 : Hid (Tx w a1 n1 c1 l)) (T2 : Hid (Tx w a2 n2 c2 m)) :
    Calls Try.prog 38 #[.slice a1 n1 c1, .slice a2 n2 c2] w fun e w' => e = .returned (.bool (l == m)) ∧ w' = w := by
  have v1 := conv_tx T1.out
  have v2 := conv_tx T2.out
  go_enter Try.func38, Try.ntmps38
  go_wp2
  go_ret
  exact ⟨rfl, rfl⟩
set_option maxHeartbeats 1000000 in
theorem suffix_any (ao : Option Addr) (n c b : Nat) (l : List UInt8) (w : World) (T : Hid (Tx w ao n c l)) (hb : w.cell? ⟨b, 0, none⟩ = some (.int .u8 10)) :
    Calls Try.prog 36 #[.slice ao n c, .slice (some ⟨b, 0, none⟩) 1 1] w fun e w' => e = .returned (.bool (enl l)) ∧ w' = w := by
  rcases Nat.eq_zero_or_pos n with h0 | h0
  · subst h0
    have hl : l = [] := List.eq_nil_of_length_eq_zero T.out.len
    subst hl
    rw [enl_nil]
    go_enter Try.func36, Try.ntmps36
    go_wp2
    go_ret
    exact ⟨rfl, rfl⟩
  · obtain ⟨g, o, rfl, hc⟩ := T.out.at h0
    have hlen := T.out.len
    have hcap := T.out.cap
    have hbig := T.out.big
    have hT1 : Tx w (some ⟨g, o + (n - 1), none⟩) 1 (c - (n - 1)) [at8 l (n - 1)] := by
      refine ⟨rfl, by omega, by omega, (fun h => by cases h), fun a ha j hj => ?_⟩
      obtain rfl : (⟨g, o + (n - 1), none⟩ : Addr) = a := by simpa using ha
      obtain rfl : j = 0 := by omega
      rw [add_none, Nat.add_zero, hc (n - 1) (by omega)]; rfl
    have hT2 : Tx w (some ⟨b, 0, none⟩) 1 1 [10] := by
      refine ⟨rfl, by omega, by omega, (fun h => by cases h), fun a ha j hj => ?_⟩
      obtain rfl : (⟨b, 0, none⟩ : Addr) = a := by simpa using ha
      obtain rfl : j = 0 := by omega
      rw [add_none, Nat.add_zero, hb]; rfl
    have CE := Hid.mk' (equal_any _ _ _ _ _ _ _ _ w hT1 hT2)
    have e : ([at8 l (n - 1)] == [10]) = enl l := by
      rw [enl_at (by omega), hlen]
      simp
    rw [e] at CE
    clear e hT1 hT2 hc
    obtain ⟨k, hk⟩ : ∃ k, k = n - 1 := ⟨_, rfl⟩
    rw [← hk] at CE
    have i1 : (1 : Int) ≤ (n : Int) := by omega
    have i4 : IntKind.i64.wrap ((n : Int) - 1) = (k : Int) := by rw [IntKind.wrap_i64]; omega
    have i5 : (n : Int) ≤ (c : Int) := by omega
    have i6 : (k : Int) ≤ (n : Int) := by omega
    have i7 : ¬ c = k := by omega
    have i8 : ¬ k = c := by omega
    have i9 : n - k = 1 := by omega
    have HX := Hid.mk' (And.intro hk (And.intro hlen (And.intro hcap hbig)))
    clear hk hlen hcap hbig h0
    go_enter Try.func36, Try.ntmps36
    go_wp2_with fail
    refine CE.out.mono ?_
    rintro e w2 ⟨rfl, hw⟩
    have hq := hw.symm
    subst hq
    clear hw
    go_wp2
    go_ret
    exact ⟨rfl, rfl⟩
theorem endsLine_any (ao : Option Addr) (n c : Nat) (l : List UInt8) (w : World) (T : Hid (Tx w ao n c l)) :
    Calls Try.prog 29 #[.slice ao n c] w fun e w' => e = .returned (.bool (enl l)) ∧ Below w.heap.size w w' := by
  have CS := Hid.mk' (suffix_any ao n c w.heap.size l (w.alloc (.cells #[.int .u8 10] 5)) (T.out.keep (bAlloc (Below.refl _ _) _)) (by simp))
  go_enter Try.func29, Try.ntmps29
  go_wp2_with fail
  refine CS.out.mono ?_
  rintro e w2 ⟨rfl, hw⟩
  have hq := hw.symm
  subst hq
  clear hw
  go_wp2
  go_ret
  exact ⟨rfl, bAlloc (Below.refl _ _) _⟩
/-- a text with a line end at its end -/
def wle (l : List UInt8) : List UInt8 := if enl l then l else l ++ [10]
theorem wle_len (l : List UInt8) : (wle l).length ≤ l.length + 1 := by unfold wle; split <;> simp
theorem below_low {n m : Nat} {w w' : World} (h : Below m w w') (hn : n ≤ m) : Below n w w' := h.mono hn
theorem withLineEnd_any (base : Nat) (v : Value) (n : Nat) (l : List UInt8) (w : World) (hO : Hid (w.ownsRow base 5 1 v n (bv l))) (hb : base ≤ w.heap.size) (hn : n + 1 ≤ 150000000000000) :
    Calls Try.prog 37 #[v] w fun e w' => ∃ v', e = .returned v' ∧ w'.ownsRow base 5 1 v' (wle l).length (bv (wle l)) ∧ Below base w w' := by
  have hl : l.length = n := by have := hO.out.1; rw [bv_length] at this; omega
  obtain ⟨a, c, rfl, hT⟩ := own_txl hO.out (by omega)
  have CE := Hid.mk' (endsLine_any a n c l w hT)
  unfold wle
  cases he : enl l with
  | true =>
    rw [he] at CE
    rw [if_pos rfl, hl]
    clear hT he
    go_enter Try.func37, Try.ntmps37
    go_wp2_with fail
    refine CE.out.mono ?_
    rintro e w2 ⟨rfl, hb2⟩
    have O2 := Hid.mk' (own_keep hO.out hb2)
    have B2 := Hid.mk' (hb2.mono hb)
    clear hb2
    go_wp2
    go_ret
    exact ⟨_, rfl, O2.out, B2.out⟩
  | false =>
    rw [he] at CE
    rw [if_neg (by simp)]
    have hl2 : (l ++ [10]).length = n + 1 := by simp [hl]
    rw [hl2]
    have hbv : bv (l ++ [10]) = bv l ++ [.int .u8 10] := by simp [bv]
    rw [hbv]
    have HX := Hid.mk' (And.intro hbv hl2)
    clear hT he hbv hl2
    go_enter Try.func37, Try.ntmps37
    go_wp2_with fail
    refine CE.out.mono ?_
    rintro e w2 ⟨rfl, hb2⟩
    have O2 := Hid.mk' (own_keep hO.out hb2)
    have B2 := Hid.mk' (hb2.mono hb)
    have hs2 := hb2.size
    clear hb2
    go_wp2_with (at_builtin; refine append_big rfl (.tmp 6) (.tmp 7) rfl base (.slice a n c) n (bv l) rfl (O2.out.alloc _) (.slice (some ⟨w2.heap.size, 0, none⟩) 1 1) 1 [.int .u8 10] rfl (.inr ⟨⟨w2.heap.size, 0, none⟩, 1, rfl, fun j t hj => lit_cells w2 _ 5 j t hj⟩) rfl (by intro u hu; simp at hu; subst hu; rfl) hn (by omega) (by simp; omega) ?_)
    intro v4 w4 hown4 hgrow4 _
    have HB4 : Hid (Below base w w4) := (B2.out.alloc (by omega) _).grown hgrow4 (by simp; omega) (fun k hk => (O2.out.lt k hk).1)
    have O4 := Hid.mk' hown4
    clear hown4 hgrow4 hs2
    go_wp2
    go_ret
    exact ⟨_, rfl, O4.out, HB4.out⟩
end Go.Proofs.Ytienamngmalkaaa
