/- hunt.lineAt. -/
import Derived.Test.YtaakgoojcogbcaaXb
import Derived.Test.YtaakgoojcogbcaaWrd
import Derived.Test.YtaakgoojcogbcaaKnd
import Derived.Laws.EntriesVeiled
namespace Go.Proofs.Ytaakgoojcogbcaa
open Go.RowKit
/-- what lineAt answers -/
def LatP (ao : Option Addr) (n c : Nat) (l : List UInt8) (k : Nat) (w : World) (e : Ending) (w' : World) : Prop := ∃ al cl, e = .returned (.tuple #[.int .i64 (bg l k : Int), .slice al (en l k - bg l k) cl]) ∧ (∀ W, Tx W ao n c l → Tx W al (en l k - bg l k) cl (lp l k)) ∧ Below w.heap.size w w'
theorem tx_lp {w : World} {ao : Option Addr} {n c k : Nat} {l : List UInt8} (hk : k ≤ n) (hn : l.length = n) (h : Tx w ao (n - bg l k) c (l.drop (bg l k))) : Tx w ao (en l k - bg l k) c (lp l k) :=
  h.head (by have := en_le (t := l) (s := k) (by omega); omega)
theorem latP_mk {ao : Option Addr} {n c : Nat} {l : List UInt8} {k : Nat} {w w' : World} {al : Option Addr} {cl m B : Nat} (hB : bg l k = B) (hm : en l k - bg l k = m) (hb : Below w.heap.size w w') (ht : ∀ W, Tx W ao n c l → Tx W al (en l k - bg l k) cl (lp l k)) : LatP ao n c l k w (.returned (.tuple #[.int .i64 (B : Int), .slice al m cl])) w' := by
  subst hB hm; exact ⟨al, cl, rfl, ht, hb⟩
set_option maxRecDepth 8000 in
set_option maxHeartbeats 4000000 in
theorem lineAt_any (ao : Option Addr) (n c k : Nat) (l : List UInt8) (w : World) (hk : k ≤ n) (HT : Hid (Tx w ao n c l)) :
    Calls Try.prog 64 #[.slice ao n c, .int .i64 (k : Int)] w fun e w' => LatP ao n c l k w e w' := by
  have hlen := HT.out.len
  have CC := Hid.mk' (column_any ao n c (k : Int) l w HT)
  rw [show pr (aCol l (k : Int)) = .returned (.tuple #[.int .i64 ((k - bg l k : Nat) : Int), .int .i64 0]) by
    unfold pr aCol ans plB; rw [decide_eq_true (by omega)]; rfl] at CC
  have hbl := bg_le l k
  have hel := en_le (t := l) (s := k) (by omega)
  have heg := en_ge l k
  have hcap := HT.out.cap
  have hbig : (n : Int) ≤ 140737488355328 := by have := HT.out.big; omega
  obtain ⟨B, HB⟩ : ∃ B, Hid (bg l k = B) := ⟨_, rfl⟩
  obtain ⟨E, HE⟩ : ∃ E, Hid (en l k = E) := ⟨_, rfl⟩
  have HX := Hid.mk' (ix_cases (s := k) hlen hk)
  rw [HB.out] at CC hbl
  rw [HE.out] at hel heg
  have hs1 : IntKind.i64.wrap ((k : Int) - ((k - B : Nat) : Int)) = (B : Int) := by rw [IntKind.wrap_i64]; omega
  have hkn : (k : Int) ≤ (n : Int) := by omega
  have hBk : (B : Int) ≤ (k : Int) := by omega
  have hBn : (B : Int) ≤ (n : Int) := by omega
  have hkc : (k : Int) ≤ (c : Int) := by omega
  have hBc : (B : Int) ≤ (c : Int) := by omega
  have hB0 : (0 : Int) ≤ (B : Int) := by omega
  cases ao with
  | none =>
    obtain ⟨rfl, rfl, rfl⟩ := HT.out.none
    obtain rfl : k = 0 := by omega
    obtain rfl : B = 0 := by omega
    obtain rfl : E = 0 := by simp at hel; omega
    go_enter Try.func64, Try.ntmps64
    go_wp2_with fail
    refine CC.out.mono ?_
    rintro e w1 ⟨rfl, hw⟩
    subst hw
    go_wp2_with (go_at_call 77; refine (index_at (s := 0) (l := []) (-1) w1 HT.out rfl).mono ?_; rintro e w' ⟨rfl, hw⟩; subst hw)
    go_region
    go_wp2
    go_ret2
    exact ⟨_, _, rfl, fun W h => h, (Below.refl _ _).drew⟩
  | some a =>
    rcases HX.out with ⟨j, hi, he, hj⟩ | ⟨hi, he⟩
    · have HI := Hid.mk' hi
      have hkj : (k : Int) + (j : Int) < (n : Int) := by omega
      have hwj : IntKind.i64.wrap ((k : Int) + (j : Int)) = (k : Int) + (j : Int) := by rw [IntKind.wrap_i64]; omega
      have hnj : ((k : Int) + (j : Int)).toNat = k + j := by omega
      have hb2 : (B : Int) ≤ (k : Int) + (j : Int) := by omega
      have hb3 : (k : Int) + (j : Int) ≤ (c : Int) := by omega
      have hj0 : (0 : Int) ≤ (j : Int) := by omega
      have hbc : ¬ c = B := by omega
      have HEJ : Hid (E = k + j) := by rw [← HE.out]; exact he
      clear hi he HX
      go_enter Try.func64, Try.ntmps64
      go_wp2_with fail
      refine CC.out.mono ?_
      rintro e w1 ⟨rfl, hw⟩
      subst hw
      go_wp2_with (go_at_call 77; refine (index_at (s := k) (l := l) (j : Int) w1 (by first | exact HT.out.tail hk | exact HT.out.tail0 hk rfl | (exact HT.out.tail0 hk (by assumption))) HI.out).mono ?_; rintro e w' ⟨rfl, hw⟩; subst hw)
      all_goals go_region
      all_goals go_wp2
      all_goals go_ret2
      all_goals
        have hE := HE.out
        have hB := HB.out
        have hJ := HEJ.out
        subst hJ
        first
        | (exact latP_mk hB (by rw [hE, hB]) (Below.refl _ _).drew (fun W hT => tx_lp (by omega) hlen (by rw [hB]; first | exact hT.tail (by omega) | exact hT.tail0 (by omega) rfl | exact hT.tail0 (by omega) (by omega))))
        | (have hck : c = k := (by assumption); subst hck; exact latP_mk hB (by rw [hE, hB]) (Below.refl _ _).drew (fun W hT => tx_lp (by omega) hlen (by rw [hB]; first | exact hT.tail (by omega) | exact hT.tail0 (by omega) rfl | exact hT.tail0 (by omega) (by omega))))
        | (have hkB : k = B := (by assumption); subst hkB; exact latP_mk hB (by rw [hE, hB]) (Below.refl _ _).drew (fun W hT => tx_lp (by omega) hlen (by rw [hB]; first | exact hT.tail (by omega) | exact hT.tail0 (by omega) rfl | exact hT.tail0 (by omega) (by omega))))
        | (have hck : c = k := (by assumption); have hkB : k = B := (by assumption); subst hkB; subst hck; exact latP_mk hB (by rw [hE, hB]) (Below.refl _ _).drew (fun W hT => tx_lp (by omega) hlen (by rw [hB]; first | exact hT.tail (by omega) | exact hT.tail0 (by omega) rfl | exact hT.tail0 (by omega) (by omega))))
    · have HI := Hid.mk' hi
      have HEJ : Hid (E = n) := by rw [← HE.out]; exact he
      clear hi he HX
      go_enter Try.func64, Try.ntmps64
      go_wp2_with fail
      refine CC.out.mono ?_
      rintro e w1 ⟨rfl, hw⟩
      subst hw
      go_wp2_with (go_at_call 77; refine (index_at (s := k) (l := l) (-1) w1 (by first | exact HT.out.tail hk | exact HT.out.tail0 hk rfl | (exact HT.out.tail0 hk (by assumption))) HI.out).mono ?_; rintro e w' ⟨rfl, hw⟩; subst hw)
      all_goals go_region
      all_goals go_wp2
      all_goals go_ret2
      all_goals
        have hE := HE.out
        have hB := HB.out
        have hJ := HEJ.out
        subst hJ
        first
        | (exact latP_mk hB (by rw [hE, hB]) (Below.refl _ _).drew (fun W hT => tx_lp (by omega) hlen (by rw [hB]; first | exact hT.tail (by omega) | exact hT.tail0 (by omega) rfl | exact hT.tail0 (by omega) (by omega))))
        | (have hck : c = k := (by assumption); subst hck; exact latP_mk hB (by rw [hE, hB]) (Below.refl _ _).drew (fun W hT => tx_lp (by omega) hlen (by rw [hB]; first | exact hT.tail (by omega) | exact hT.tail0 (by omega) rfl | exact hT.tail0 (by omega) (by omega))))
        | (have hkB : k = B := (by assumption); subst hkB; exact latP_mk hB (by rw [hE, hB]) (Below.refl _ _).drew (fun W hT => tx_lp (by omega) hlen (by rw [hB]; first | exact hT.tail (by omega) | exact hT.tail0 (by omega) rfl | exact hT.tail0 (by omega) (by omega))))
        | (have hck : c = k := (by assumption); have hkB : k = B := (by assumption); subst hkB; subst hck; exact latP_mk hB (by rw [hE, hB]) (Below.refl _ _).drew (fun W hT => tx_lp (by omega) hlen (by rw [hB]; first | exact hT.tail (by omega) | exact hT.tail0 (by omega) rfl | exact hT.tail0 (by omega) (by omega))))
end Go.Proofs.Ytaakgoojcogbcaa
/- hunt: isWord, isOther, slices.IndexFunc of both. -/
namespace Go.Proofs.Ytaakgoojcogbcaa
open Go.RowKit
/-- a word's byte? -/
def iwb (b : UInt8) : Bool := decide (kd (b.toNat : Int) false = 2)
def iob (b : UInt8) : Bool := !iwb b
theorem iwb_le {b : UInt8} (h : le b = true) : iwb b = false := by
  have : (b.toNat : Int) = 10 := by unfold le at h; simpa using h
  unfold iwb kd
  rw [this]; rfl
set_option maxHeartbeats 1000000 in
theorem hWord_any (b : UInt8) (w : World) : Calls Try.prog 72 #[.int .u8 (b.toNat : Int)] w fun e w' => e = .returned (.bool (iwb b)) ∧ w' = w := by
  have C := Hid.mk' (of_any (b.toNat : Int) false w)
  obtain ⟨R, HR⟩ : ∃ R, Hid (iwb b = R) := ⟨_, rfl⟩
  rw [HR.out]
  unfold iwb at HR
  generalize kd (b.toNat : Int) false = K at *
  go_enter Try.func72, Try.ntmps72
  go_wp2_with fail
  refine C.out.mono ?_
  rintro e w' ⟨rfl, hw⟩
  subst hw
  by_cases h : K = 2
  · subst h
    obtain rfl : R = true := HR.out.symm
    go_wp2
    go_ret
    exact ⟨rfl, rfl⟩
  · have h' : (K == 2) = false := by simpa using h
    obtain rfl : R = false := by rw [← HR.out]; exact decide_eq_false h
    go_wp2
    go_ret
    exact ⟨rfl, rfl⟩
set_option maxHeartbeats 1000000 in
theorem hOther_any (b : UInt8) (w : World) : Calls Try.prog 73 #[.int .u8 (b.toNat : Int)] w fun e w' => e = .returned (.bool (iob b)) ∧ w' = w := by
  have C := Hid.mk' (hWord_any b w)
  unfold iob
  generalize iwb b = K at *
  go_enter Try.func73, Try.ntmps73
  go_wp2_with fail
  refine C.out.mono ?_
  rintro e w' ⟨rfl, hw⟩
  subst hw
  cases K
  all_goals go_wp2
  all_goals go_ret
  all_goals exact ⟨rfl, rfl⟩
/-- what IndexFunc tells -/
def IxR (p : UInt8 → Bool) (l : List UInt8) (r : Int) : Prop := (∃ k : Nat, r = (k : Int) ∧ k < l.length ∧ p (at8 l k) = true ∧ ∀ i, i < k → p (at8 l i) = false) ∨ (r = -1 ∧ ∀ i, i < l.length → p (at8 l i) = false)
def IxP (p : UInt8 → Bool) (l : List UInt8) (w : World) (e : Ending) (w' : World) : Prop := ∃ r, e = .returned (.int .i64 r) ∧ IxR p l r ∧ w' = w
set_option maxRecDepth 8000 in
set_option maxHeartbeats 4000000 in
theorem ixf_word (ao : Option Addr) (n c : Nat) (l : List UInt8) (w : World) (HT : Hid (Tx w ao n c l)) :
    Calls Try.prog 71 #[.slice ao n c, .func (.func 72) #[] #[]] w fun e w' => IxP iwb l w e w' := by
  have hlen := HT.out.len
  have hbig := HT.out.big
  go_enter Try.func71, Try.ntmps71
  go_wp2_with fail
  go_loopg [5, 8] n (fun m x5 x8 wx => ∃ k : Nat, x8 = .int .i64 (k : Int) ∧ k ≤ n ∧ m + k = n ∧ Hid (∀ i, i < k → iwb (at8 l i) = false) ∧ wx = w)
  case atStart => exact ⟨0, rfl, by omega, by omega, fun i hi => by omega, rfl⟩
  case round =>
    obtain ⟨k, rfl, hk, hm, HI, hw⟩ := hrel
    subst hw
    by_cases hkn : k < n
    · have hkn' : (k : Int) < (n : Int) := by omega
      obtain ⟨g, o, e1, hc⟩ := HT.out.at (by omega)
      subst e1
      have cx := hc k hkn
      have CW := Hid.mk' (hWord_any (at8 l k) wr)
      have hw1 : IntKind.i64.wrap ((k : Int) + 1) = ((k + 1 : Nat) : Int) := by rw [IntKind.wrap_i64]; omega
      clear hc
      go_wp2_with fail
      refine CW.out.mono ?_
      rintro e w' ⟨rfl, hw⟩
      subst hw
      cases hp : iwb (at8 l k) with
      | true =>
        have HPP := Hid.mk' hp
        clear hp
        go_wp2
        go_ret
        exact ⟨(k : Int), rfl, .inl ⟨k, rfl, by omega, HPP.out, HI.out⟩, rfl⟩
      | false =>
        have HPP := Hid.mk' hp
        clear hp
        go_wp2
        go_roundg (n - (k + 1))
        case measure => omega
        case rel =>
          refine ⟨k + 1, rfl, by omega, by omega, fun i hi => ?_, rfl⟩
          rcases Nat.lt_or_ge i k with h | h
          · exact HI.out i h
          · rw [show i = k by omega]; exact HPP.out
    · have hkn' : ¬ ((k : Int) < (n : Int)) := by omega
      have HII := Hid.mk' (fun i (hi : i < l.length) => HI.out i (by omega))
      go_wp2
      go_ret
      exact ⟨-1, rfl, .inr ⟨rfl, HII.out⟩, rfl⟩
set_option maxRecDepth 8000 in
set_option maxHeartbeats 4000000 in
theorem ixf_other (ao : Option Addr) (n c : Nat) (l : List UInt8) (w : World) (HT : Hid (Tx w ao n c l)) :
    Calls Try.prog 71 #[.slice ao n c, .func (.func 73) #[] #[]] w fun e w' => IxP iob l w e w' := by
  have hlen := HT.out.len
  have hbig := HT.out.big
  go_enter Try.func71, Try.ntmps71
  go_wp2_with fail
  go_loopg [5, 8] n (fun m x5 x8 wx => ∃ k : Nat, x8 = .int .i64 (k : Int) ∧ k ≤ n ∧ m + k = n ∧ Hid (∀ i, i < k → iob (at8 l i) = false) ∧ wx = w)
  case atStart => exact ⟨0, rfl, by omega, by omega, fun i hi => by omega, rfl⟩
  case round =>
    obtain ⟨k, rfl, hk, hm, HI, hw⟩ := hrel
    subst hw
    by_cases hkn : k < n
    · have hkn' : (k : Int) < (n : Int) := by omega
      obtain ⟨g, o, e1, hc⟩ := HT.out.at (by omega)
      subst e1
      have cx := hc k hkn
      have CW := Hid.mk' (hOther_any (at8 l k) wr)
      have hw1 : IntKind.i64.wrap ((k : Int) + 1) = ((k + 1 : Nat) : Int) := by rw [IntKind.wrap_i64]; omega
      clear hc
      go_wp2_with fail
      refine CW.out.mono ?_
      rintro e w' ⟨rfl, hw⟩
      subst hw
      cases hp : iob (at8 l k) with
      | true =>
        have HPP := Hid.mk' hp
        clear hp
        go_wp2
        go_ret
        exact ⟨(k : Int), rfl, .inl ⟨k, rfl, by omega, HPP.out, HI.out⟩, rfl⟩
      | false =>
        have HPP := Hid.mk' hp
        clear hp
        go_wp2
        go_roundg (n - (k + 1))
        case measure => omega
        case rel =>
          refine ⟨k + 1, rfl, by omega, by omega, fun i hi => ?_, rfl⟩
          rcases Nat.lt_or_ge i k with h | h
          · exact HI.out i h
          · rw [show i = k by omega]; exact HPP.out
    · have hkn' : ¬ ((k : Int) < (n : Int)) := by omega
      have HII := Hid.mk' (fun i (hi : i < l.length) => HI.out i (by omega))
      go_wp2
      go_ret
      exact ⟨-1, rfl, .inr ⟨rfl, HII.out⟩, rfl⟩
end Go.Proofs.Ytaakgoojcogbcaa
/- hunt: wordFrom. -/
namespace Go.Proofs.Ytaakgoojcogbcaa
open Go.RowKit
/-- is byte j of the text a word's? -/
def iwt (t : List UInt8) (j : Nat) : Bool := iwb (at8 t j)
/-- no word from k on in its line -/
def WdN (t : List UInt8) (k : Nat) : Prop := ∀ j, k ≤ j → j < en t k → iwt t j = false
/-- the word at k or behind it -/
structure WdS (t : List UInt8) (k s e : Nat) : Prop where
  a : ∃ a, k ≤ a ∧ a < en t k ∧ iwt t a = true ∧ (∀ j, k ≤ j → j < a → iwt t j = false) ∧ s ≤ a ∧ a < e
  hi : e ≤ en t k
  all : ∀ j, s ≤ j → j < e → iwt t j = true
  lo : s = 0 ∨ iwt t (s - 1) = false
  up : e = t.length ∨ iwt t e = false
theorem WdS.one {t : List UInt8} {k s e s' e' : Nat} (h : WdS t k s e) (h' : WdS t k s' e') : s = s' ∧ e = e' := by
  obtain ⟨a, a1, a2, a3, a4, a5, a6⟩ := h.a
  obtain ⟨b, b1, b2, b3, b4, b5, b6⟩ := h'.a
  have hab : a = b := by
    rcases Nat.lt_trichotomy a b with g | g | g
    · rw [b4 a a1 g] at a3; cases a3
    · exact g
    · rw [a4 b b1 g] at b3; cases b3
  subst hab
  constructor
  · rcases Nat.lt_trichotomy s s' with g | g | g
    · rcases h'.lo with x | x
      · omega
      · rw [h.all (s' - 1) (by omega) (by omega)] at x; cases x
    · exact g
    · rcases h.lo with x | x
      · omega
      · rw [h'.all (s - 1) (by omega) (by omega)] at x; cases x
  · have he := h.hi
    have he' := h'.hi
    rcases Nat.lt_trichotomy e e' with g | g | g
    · rcases h.up with x | x
      · have : en t k ≤ t.length ∨ t.length < k := by
          rcases Nat.lt_or_ge t.length k with y | y
          · exact .inr y
          · exact .inl (en_le y)
        rcases this with y | y
        · omega
        · have : en t k = k := by unfold en; rw [List.drop_eq_nil_of_le (by omega)]; rfl
          omega
      · rw [h'.all e (by omega) (by omega)] at x; cases x
    · exact g
    · rcases h'.up with x | x
      · have : en t k ≤ t.length ∨ t.length < k := by
          rcases Nat.lt_or_ge t.length k with y | y
          · exact .inr y
          · exact .inl (en_le y)
        rcases this with y | y
        · omega
        · have : en t k = k := by unfold en; rw [List.drop_eq_nil_of_le (by omega)]; rfl
          omega
      · rw [h.all e' (by omega) (by omega)] at x; cases x
theorem WdS.not {t : List UInt8} {k s e : Nat} (h : WdS t k s e) (h' : WdN t k) : False := by
  obtain ⟨a, a1, a2, a3, _⟩ := h.a
  rw [h' a a1 a2] at a3; cases a3
theorem lp_at {t : List UInt8} {k j : Nat} (h : j < en t k - bg t k) : at8 (lp t k) j = at8 t (bg t k + j) := by
  rw [← at8_drop]
  unfold lp
  simp [at8, List.getD, h]
theorem iwt_end {t : List UInt8} {k : Nat} (h : en t k < t.length) : iwt t (en t k) = false := iwb_le (en_edge h)
/-- what wordFrom answers -/
def WfP (t : List UInt8) (k : Nat) (w : World) (e : Ending) (w' : World) : Prop :=
  Below w.heap.size w w' ∧ ((WdN t k ∧ e = .returned (.slice none 0 0)) ∨ ∃ s x av cv, WdS t k s x ∧ e = .returned (.slice av (x - s) cv) ∧ Tx w' av (x - s) cv ((t.drop s).take (x - s)))
section
variable {t : List UInt8} {k a0 x r : Nat}
theorem wd_mk (hk : k ≤ t.length) (h1 : k - bg t k ≤ a0) (h2 : a0 < en t k - bg t k) (h3 : iwb (at8 (lp t k) a0) = true) (h4 : ∀ j, k - bg t k ≤ j → j < a0 → iwb (at8 (lp t k) j) = false) (h5 : x ≤ a0) (h6 : ∀ j, x ≤ j → j < a0 → iwb (at8 (lp t k) j) = true) (h7 : x = 0 ∨ iwb (at8 (lp t k) (x - 1)) = false)
    (h8 : x + r ≤ en t k - bg t k) (h9 : ∀ j, j < r → iwb (at8 (lp t k) (x + j)) = true) (h10 : x + r = en t k - bg t k ∨ iwb (at8 (lp t k) (x + r)) = false) : WdS t k (bg t k + x) (bg t k + x + r) := by
  have hb := bg_le t k
  have he := en_le hk
  have hge := en_ge t k
  have cv : ∀ j, j < en t k - bg t k → iwt t (bg t k + j) = iwb (at8 (lp t k) j) := fun j hj => by unfold iwt; rw [lp_at hj]
  have ha0 : a0 < x + r := by
    rcases Nat.lt_or_ge a0 (x + r) with h | h
    · exact h
    · rcases h10 with g | g
      · omega
      · rcases Nat.lt_or_ge (x + r) a0 with y | y
        · rw [h6 (x + r) (by omega) y] at g; cases g
        · rw [show x + r = a0 by omega, h3] at g; cases g
  refine ⟨⟨bg t k + a0, by omega, by omega, by rw [cv a0 h2]; exact h3, fun j j1 j2 => ?_, by omega, by omega⟩, by omega, fun j j1 j2 => ?_, ?_, ?_⟩
  · rw [show j = bg t k + (j - bg t k) by omega, cv _ (by omega)]; exact h4 _ (by omega) (by omega)
  · rw [show j = bg t k + (x + (j - bg t k - x)) by omega, cv _ (by omega)]; exact h9 _ (by omega)
  · rcases h7 with g | g
    · subst g
      rw [Nat.add_zero]
      rcases (bg_st t k hk).edge with y | y
      · exact .inl y
      · exact .inr (iwb_le y.2)
    · by_cases hx0 : x = 0
      · subst hx0
        rw [Nat.add_zero]
        rcases (bg_st t k hk).edge with y | y
        · exact .inl y
        · exact .inr (iwb_le y.2)
      · refine .inr ?_
        rw [show bg t k + x - 1 = bg t k + (x - 1) by omega, cv _ (by omega)]; exact g
  · rcases h10 with g | g
    · rw [show bg t k + x + r = en t k by omega]
      rcases Nat.lt_or_ge (en t k) t.length with y | y
      · exact .inr (iwt_end y)
      · exact .inl (by omega)
    · rcases Nat.lt_or_ge (x + r) (en t k - bg t k) with y | y
      · refine .inr ?_
        rw [Nat.add_assoc, cv _ y]; exact g
      · rw [show bg t k + x + r = en t k by omega]
        rcases Nat.lt_or_ge (en t k) t.length with y | y
        · exact .inr (iwt_end y)
        · exact .inl (by omega)
theorem wd_list (h8 : x + r ≤ en t k - bg t k) : ((lp t k).drop x).take r = (t.drop (bg t k + x)).take (bg t k + x + r - (bg t k + x)) := by
  unfold lp
  rw [List.drop_take, List.drop_drop, List.take_take]
  congr 1
  omega
end
set_option maxRecDepth 8000 in
set_option maxHeartbeats 8000000 in
theorem wordFrom_any (ao : Option Addr) (n c k : Nat) (t : List UInt8) (w : World) (hk : k ≤ n) (HT : Hid (Tx w ao n c t)) :
    Calls Try.prog 43 #[.slice ao n c, .int .i64 (k : Int)] w fun e w' => WfP t k w e w' := by
  have hlen := HT.out.len
  have hbig := HT.out.big
  have CL := Hid.mk' (lineAt_any ao n c k t w hk HT)
  go_enter Try.func43, Try.ntmps43
  go_wp2_with fail
  refine CL.out.mono ?_
  rintro e w1 ⟨al, cl, rfl, htx, hb1⟩
  have HB := Hid.mk' hb1
  have HL := Hid.mk' ((htx w HT.out).keep hb1)
  have hbk := bg_le t k
  have hek := en_ge t k
  have hel := en_le (t := t) (s := k) (by omega)
  have hcap := HL.out.cap
  clear CL htx hb1
  have HMK := Hid.mk' (fun (a0 x r : Nat) => wd_mk (t := t) (k := k) (a0 := a0) (x := x) (r := r) (by omega))
  have HLI := Hid.mk' (fun (x r : Nat) => wd_list (t := t) (k := k) (x := x) (r := r))
  have HN0 : Hid ((∀ j, j < en t k - k → iwb (at8 ((lp t k).drop (k - bg t k)) j) = false) → WdN t k) := fun h j j1 j2 => by
    have := h (j - k) (by omega)
    rw [at8_drop, lp_at (by omega), show bg t k + (k - bg t k + (j - k)) = j by omega] at this
    exact this
  obtain ⟨ln, HLN⟩ : ∃ ln, Hid (lp t k = ln) := ⟨_, rfl⟩
  have hll : ln.length = en t k - bg t k := by rw [← HLN.out]; exact lp_len (by omega)
  rw [HLN.out] at HL HMK HLI HN0
  obtain ⟨B, HBB⟩ : ∃ B, Hid (bg t k = B) := ⟨_, rfl⟩
  obtain ⟨E, HEE⟩ : ∃ E, Hid (en t k = E) := ⟨_, rfl⟩
  rw [HBB.out] at hbk hll hcap HL HMK HLI HN0 ⊢
  rw [HEE.out] at hek hel hll hcap HL HMK HLI HN0 ⊢
  have hw1 : IntKind.i64.wrap ((k : Int) - (B : Int)) = ((k - B : Nat) : Int) := by rw [IntKind.wrap_i64]; omega
  obtain ⟨F, HFF⟩ : ∃ F, Hid (k - B = F) := ⟨_, rfl⟩
  obtain ⟨Mm, HMM⟩ : ∃ Mm, Hid (E - B = Mm) := ⟨_, rfl⟩
  have hEk : E - k = Mm - F := by have := HFF.out; have := HMM.out; omega
  have hFM : F ≤ Mm := by have := HFF.out; have := HMM.out; omega
  have hMb : Mm ≤ 140737488355328 := by have := HMM.out; omega
  rw [HFF.out] at hw1 HMK HN0
  rw [HMM.out] at hll hcap HL HMK HLI ⊢
  rw [hEk] at HN0
  clear hEk hbk hek hel
  have hs1 : (F : Int) ≤ (Mm : Int) := by omega
  have hs2 : (Mm : Int) ≤ (cl : Int) := by omega
  have hs3 : (F : Int) ≤ (cl : Int) := by omega
  have hs0 : (0 : Int) ≤ (F : Int) := by omega
  have hML : Mm ≤ 140737488355328 := hMb
  cases al with
  | none =>
    obtain ⟨rfl, rfl, rfl⟩ := HL.out.none
    obtain rfl : F = 0 := by omega
    have HD := Hid.mk' (HN0.out (fun j hj => by omega))
    go_wp2_with fail
    refine (ixf_word none 0 0 [] w1 HL).mono ?_
    rintro e w2 ⟨r, rfl, hr, hw⟩
    subst hw
    rcases hr with ⟨j, _, hj, _⟩ | ⟨rfl, _⟩
    · simp at hj
    · go_wp2
      go_ret
      exact ⟨HB.out, .inl ⟨HD.out, rfl⟩⟩
  | some a =>
    by_cases hcF : cl = F
    · have hMF : Mm = F := by omega
      subst hMF hcF
      have HD := Hid.mk' (HN0.out (fun j hj => by omega))
      have HZ : Hid (Tx w1 (some a) 0 0 (ln.drop cl)) := by have := HL.out.tail0 (Nat.le_refl _) rfl; rw [Nat.sub_self] at this; exact this
      have CX := Hid.mk' (ixf_word (some a) 0 0 (ln.drop cl) w1 HZ)
      have hlz := HZ.out.len
      clear hs1 hs2 hs3 hcap hFM
      go_wp2_with fail
      refine CX.out.mono ?_
      rintro e w2 ⟨r, rfl, hr, hw⟩
      subst hw
      rcases hr with ⟨j, _, hj, _⟩ | ⟨rfl, _⟩
      · rw [hlz] at hj; omega
      · go_wp2
        go_ret
        exact ⟨HB.out, .inl ⟨HD.out, rfl⟩⟩
    · go_wp2_with fail
      refine (ixf_word _ _ _ (ln.drop F) w1 (HL.out.tail hFM)).mono ?_
      rintro e w2 ⟨r, rfl, hr, hw⟩
      subst hw
      rcases hr with ⟨j, rfl, hj, hj1, hj2⟩ | ⟨rfl, hn⟩
      · rw [List.length_drop, hll] at hj
        obtain ⟨A, HA⟩ : ∃ A, Hid (F + j = A) := ⟨_, rfl⟩
        have hAM : A < Mm := by have := HA.out; omega
        have hFA : F ≤ A := by have := HA.out; omega
        have HA1 : Hid (iwb (at8 ln A) = true) := by have := hj1; rw [at8_drop, HA.out] at this; exact this
        have HA2 : Hid (∀ i, F ≤ i → i < A → iwb (at8 ln i) = false) := fun i i1 i2 => by
          have := hj2 (i - F) (by have := HA.out; omega)
          rw [at8_drop, show F + (i - F) = i by omega] at this; exact this
        have hw2 : IntKind.i64.wrap ((F : Int) + (j : Int)) = (A : Int) := by have := HA.out; rw [IntKind.wrap_i64]; omega
        have hj0 : ¬ ((j : Int) < 0) := by omega
        clear hj1 hj2 hj
        obtain ⟨g, o, e1, hc⟩ := HL.out.at (by omega)
        have HC := Hid.mk' hc
        injection e1 with e1
        subst e1
        clear hc
        go_wp2_with fail
        go_loopg [7] A (fun m x7 wx => ∃ x : Nat, x7 = .int .i64 (x : Int) ∧ x ≤ A ∧ m = x ∧ Hid (∀ i, x ≤ i → i < A → iwb (at8 ln i) = true) ∧ wx = w2)
        case atStart => exact ⟨A, rfl, Nat.le_refl _, rfl, fun i i1 i2 => by omega, rfl⟩
        case round =>
          obtain ⟨x, rfl, hx, hm, HI, hw⟩ := hrel
          subst hw
          by_cases hx0 : x = 0
          · have hx0' : decide ((0 : Int) < (x : Int)) = false := decide_eq_false (by omega)
            have hx1 : ¬ ((0 : Int) < (x : Int)) := by omega
            have HX7 : Hid (x = 0 ∨ iwb (at8 ln (x - 1)) = false) := .inl hx0
            clear hx0
            have hxM : x < Mm := by omega
            have hcx : ¬ cl = x := by omega
            have hsx1 : (x : Int) ≤ (Mm : Int) := by omega
            have hsx2 : (x : Int) ≤ (cl : Int) := by omega
            have HXt : Hid (Tx wr (some ⟨g, o + x, none⟩) (Mm - x) (cl - x) (ln.drop x)) := by have := HL.out.tail (s := x) (by omega); rw [add_none] at this; exact this
            have COx := Hid.mk' (ixf_other _ _ _ (ln.drop x) wr HXt)
            go_wp2_with fail
            refine COx.out.mono ?_
            rintro e w4 ⟨r2, rfl, hr2, hw⟩
            subst hw
            rcases hr2 with ⟨j2, rfl, hj2, hk1, hk2⟩ | ⟨rfl, hn2⟩
            · rw [List.length_drop, hll] at hj2
              have HWS := Hid.mk' (HMK.out A x j2 hFA hAM HA1.out HA2.out hx HI.out HX7.out (by omega) (fun i hi => by have := hk2 i hi; rw [at8_drop] at this; unfold iob at this; simpa using this) (.inr (by have := hk1; rw [at8_drop] at this; unfold iob at this; simpa using this)))
              have HTX := Hid.mk' (HXt.out.head (i := j2) (by omega))
              rw [HLI.out x j2 (by omega)] at HTX
              have hj3 : (j2 : Int) ≤ ((cl - x : Nat) : Int) := by omega
              have hj4 : (0 : Int) ≤ (j2 : Int) := by omega
              have hj5 : j2 = B + x + j2 - (B + x) := by omega
              have HJ5 := Hid.mk' hj5
              clear hk1 hk2 hj5
              go_wp2
              go_ret
              refine ⟨HB.out, .inr ⟨B + x, B + x + j2, some ⟨g, o + x, none⟩, cl - x, HWS.out, ?_, ?_⟩⟩
              · rw [← HJ5.out]; rfl
              · have := HTX.out
                rw [← HJ5.out] at this ⊢
                exact this
            · have HWS := Hid.mk' (HMK.out A x (Mm - x) hFA hAM HA1.out HA2.out hx HI.out HX7.out (by omega) (fun i hi => by have := hn2 i (by rw [List.length_drop, hll]; exact hi); rw [at8_drop] at this; unfold iob at this; simpa using this) (.inl (by omega)))
              have HTX := Hid.mk' (HXt.out.head (i := Mm - x) (by omega))
              rw [HLI.out x (Mm - x) (by omega)] at HTX
              have HJ5 : Hid (Mm - x = B + x + (Mm - x) - (B + x)) := by unfold Hid; omega
              clear hn2
              go_wp2
              go_ret
              refine ⟨HB.out, .inr ⟨B + x, B + x + (Mm - x), some ⟨g, o + x, none⟩, cl - x, HWS.out, ?_, ?_⟩⟩
              · rw [← HJ5.out]; rfl
              · have := HTX.out
                rw [← HJ5.out] at this ⊢
                exact this
          · have hx0' : decide ((0 : Int) < (x : Int)) = true := decide_eq_true (by omega)
            have hx1 : (0 : Int) < (x : Int) := by omega
            have cx := HC.out (x - 1) (by omega)
            have hw3 : IntKind.i64.wrap ((x : Int) - 1) = ((x - 1 : Nat) : Int) := by rw [IntKind.wrap_i64]; omega
            have hx2 : ((x - 1 : Nat) : Int) < (Mm : Int) := by omega
            have CW := Hid.mk' (hWord_any (at8 ln (x - 1)) wr)
            go_wp2_with fail
            refine CW.out.mono ?_
            rintro e w3 ⟨rfl, hw⟩
            subst hw
            cases hq : iwb (at8 ln (x - 1)) with
            | true =>
              have HQ := Hid.mk' hq
              clear hq
              go_wp2
              go_roundg (x - 1)
              case measure => omega
              case rel =>
                refine ⟨x - 1, rfl, by omega, rfl, fun i i1 i2 => ?_, rfl⟩
                rcases Nat.lt_or_ge i x with h | h
                · rw [show i = x - 1 by omega]; exact HQ.out
                · exact HI.out i h i2
            | false =>
              have HX7 : Hid (x = 0 ∨ iwb (at8 ln (x - 1)) = false) := .inr hq
              clear hq
              have hxM : x < Mm := by omega
              have hcx : ¬ cl = x := by omega
              have hsx1 : (x : Int) ≤ (Mm : Int) := by omega
              have hsx2 : (x : Int) ≤ (cl : Int) := by omega
              have HXt : Hid (Tx w3 (some ⟨g, o + x, none⟩) (Mm - x) (cl - x) (ln.drop x)) := by have := HL.out.tail (s := x) (by omega); rw [add_none] at this; exact this
              have COx := Hid.mk' (ixf_other _ _ _ (ln.drop x) w3 HXt)
              go_wp2_with fail
              refine COx.out.mono ?_
              rintro e w4 ⟨r2, rfl, hr2, hw⟩
              subst hw
              rcases hr2 with ⟨j2, rfl, hj2, hk1, hk2⟩ | ⟨rfl, hn2⟩
              · rw [List.length_drop, hll] at hj2
                have HWS := Hid.mk' (HMK.out A x j2 hFA hAM HA1.out HA2.out hx HI.out HX7.out (by omega) (fun i hi => by have := hk2 i hi; rw [at8_drop] at this; unfold iob at this; simpa using this) (.inr (by have := hk1; rw [at8_drop] at this; unfold iob at this; simpa using this)))
                have HTX := Hid.mk' (HXt.out.head (i := j2) (by omega))
                rw [HLI.out x j2 (by omega)] at HTX
                have hj3 : (j2 : Int) ≤ ((cl - x : Nat) : Int) := by omega
                have hj4 : (0 : Int) ≤ (j2 : Int) := by omega
                have hj5 : j2 = B + x + j2 - (B + x) := by omega
                have HJ5 := Hid.mk' hj5
                clear hk1 hk2 hj5
                go_wp2
                go_ret
                refine ⟨HB.out, .inr ⟨B + x, B + x + j2, some ⟨g, o + x, none⟩, cl - x, HWS.out, ?_, ?_⟩⟩
                · rw [← HJ5.out]; rfl
                · have := HTX.out
                  rw [← HJ5.out] at this ⊢
                  exact this
              · have HWS := Hid.mk' (HMK.out A x (Mm - x) hFA hAM HA1.out HA2.out hx HI.out HX7.out (by omega) (fun i hi => by have := hn2 i (by rw [List.length_drop, hll]; exact hi); rw [at8_drop] at this; unfold iob at this; simpa using this) (.inl (by omega)))
                have HTX := Hid.mk' (HXt.out.head (i := Mm - x) (by omega))
                rw [HLI.out x (Mm - x) (by omega)] at HTX
                have HJ5 : Hid (Mm - x = B + x + (Mm - x) - (B + x)) := by unfold Hid; omega
                clear hn2
                go_wp2
                go_ret
                refine ⟨HB.out, .inr ⟨B + x, B + x + (Mm - x), some ⟨g, o + x, none⟩, cl - x, HWS.out, ?_, ?_⟩⟩
                · rw [← HJ5.out]; rfl
                · have := HTX.out
                  rw [← HJ5.out] at this ⊢
                  exact this
      · have HD := Hid.mk' (HN0.out (fun j hj => hn j (by rw [List.length_drop, hll]; exact hj)))
        clear hn
        go_wp2
        go_ret
        exact ⟨HB.out, .inl ⟨HD.out, rfl⟩⟩
end Go.Proofs.Ytaakgoojcogbcaa
