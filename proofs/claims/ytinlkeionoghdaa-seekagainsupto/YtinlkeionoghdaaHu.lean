/- What a look along a line finds, as plain functions of the text. -/
import Derived.Test.YtinlkeionoghdaaFns
namespace Go.Proofs.Ytinlkeionoghdaa
open Go.RowKit

theorem bT {a b c : World} (h1 : Below a.heap.size a b) (h2 : Below b.heap.size b c) : Below a.heap.size a c := h1.trans (h2.mono h1.size)
theorem bcell {W w1 : World} (hb : Below W.heap.size W w1) : (∀ b o, b < W.heap.size → w1.cell? ⟨b, o, none⟩ = W.cell? ⟨b, o, none⟩) ∧ (∀ b o, b < W.heap.size → w1.frozen? ⟨b, o, none⟩ = W.frozen? ⟨b, o, none⟩) :=
  ⟨fun b o h => hb.cell (p := ⟨b, o, none⟩) h, fun b o h => hb.frozen (p := ⟨b, o, none⟩) h⟩
theorem bset {w W : World} (h : Below w.heap.size w W) {a : Addr} (v : Value) (ha : w.heap.size ≤ a.block) : Below w.heap.size w (W.setCell a v) := h.setCell ha v
theorem keepC {w w' : World} {a : Addr} {v : Value} (hb : Below w.heap.size w w') (h : w.cell? a = some v) : w'.cell? a = some v := by rw [hb.cell (lt_of_cell h)]; exact h

/-- is byte number j the one that is looked for -/
def isb (l : List UInt8) (b : Int) (j : Nat) : Bool := ((at8 l j).toNat : Int) == b
/-- the places from p on, f of them, that are taken, the nearest first -/
def hu (S : Nat → Bool) : Nat → Nat → List Nat
  | 0, _ => []
  | f + 1, p => if S p = true then p :: hu S f (p + 1) else hu S f (p + 1)
/-- the places below p, f of them, that are taken, the nearest first -/
def hd (S : Nat → Bool) : Nat → Nat → List Nat
  | 0, _ => []
  | f + 1, p => if S (p - 1) = true then (p - 1) :: hd S f (p - 1) else hd S f (p - 1)
theorem hu_yes {S : Nat → Bool} {f p : Nat} (h : S p = true) : hu S (f + 1) p = p :: hu S f (p + 1) := if_pos h
theorem hu_no {S : Nat → Bool} {f p : Nat} (h : S p = false) : hu S (f + 1) p = hu S f (p + 1) := if_neg (by rw [h]; simp)
theorem hd_yes {S : Nat → Bool} {f p : Nat} (h : S p = true) : hd S (f + 1) (p + 1) = p :: hd S f p := if_pos h
theorem hd_no {S : Nat → Bool} {f p : Nat} (h : S p = false) : hd S (f + 1) (p + 1) = hd S f p := if_neg (by rw [Nat.add_sub_cancel, h]; simp)
theorem hu_len (S : Nat → Bool) : ∀ f p, (hu S f p).length ≤ f
  | 0, _ => Nat.le_refl _
  | f + 1, p => by
    have := hu_len S f (p + 1)
    unfold hu; split
    · simp only [List.length_cons]; omega
    · omega
theorem hd_len (S : Nat → Bool) : ∀ f p, (hd S f p).length ≤ f
  | 0, _ => Nat.le_refl _
  | f + 1, p => by
    have := hd_len S f (p - 1)
    unfold hd; split
    · simp only [List.length_cons]; omega
    · omega
/-- a member is a place that is taken -/
theorem hu_mem (S : Nat → Bool) : ∀ f p q, q ∈ hu S f p → p ≤ q ∧ q < p + f ∧ S q = true
  | 0, _, q, h => by simp [hu] at h
  | f + 1, p, q, h => by
    cases hs : S p with
    | true =>
      rw [hu_yes hs] at h
      rcases List.mem_cons.1 h with rfl | h
      · exact ⟨Nat.le_refl _, by omega, hs⟩
      · have := hu_mem S f (p + 1) q h; exact ⟨by omega, by omega, this.2.2⟩
    | false =>
      rw [hu_no hs] at h
      have := hu_mem S f (p + 1) q h; exact ⟨by omega, by omega, this.2.2⟩
theorem hd_mem (S : Nat → Bool) : ∀ f p q, f ≤ p → q ∈ hd S f p → p - f ≤ q ∧ q < p ∧ S q = true
  | 0, _, q, _, h => by simp [hd] at h
  | f + 1, p, q, hf, h => by
    obtain ⟨p, rfl⟩ : ∃ k, p = k + 1 := ⟨p - 1, by omega⟩
    cases hs : S p with
    | true =>
      rw [hd_yes hs] at h
      rcases List.mem_cons.1 h with rfl | h
      · exact ⟨by omega, by omega, hs⟩
      · have := hd_mem S f p q (by omega) h; exact ⟨by omega, by omega, this.2.2⟩
    | false =>
      rw [hd_no hs] at h
      have := hd_mem S f p q (by omega) h; exact ⟨by omega, by omega, this.2.2⟩

/-- a key's number: f t F T, 0 for all others -/
def kq (k : Int) : Nat := if (k == 102) = true then 1 else if (k == 116) = true then 2 else if (k == 70) = true then 3 else if (k == 84) = true then 4 else 0
theorem kq_cases (k : Int) : (k = 102 ∧ kq k = 1) ∨ (k = 116 ∧ kq k = 2) ∨ (k = 70 ∧ kq k = 3) ∨ (k = 84 ∧ kq k = 4) ∨ ((k == 102) = false ∧ (k == 116) = false ∧ (k == 70) = false ∧ (k == 84) = false ∧ kq k = 0) := by
  by_cases h1 : k = 102
  · subst h1; exact .inl ⟨rfl, rfl⟩
  by_cases h2 : k = 116
  · subst h2; exact .inr (.inl ⟨rfl, rfl⟩)
  by_cases h3 : k = 70
  · subst h3; exact .inr (.inr (.inl ⟨rfl, rfl⟩))
  by_cases h4 : k = 84
  · subst h4; exact .inr (.inr (.inr (.inl ⟨rfl, rfl⟩)))
  have g1 : (k == 102) = false := beq_false_of_ne h1
  have g2 : (k == 116) = false := beq_false_of_ne h2
  have g3 : (k == 70) = false := beq_false_of_ne h3
  have g4 : (k == 84) = false := beq_false_of_ne h4
  exact .inr (.inr (.inr (.inr ⟨g1, g2, g3, g4, by unfold kq; rw [g1, g2, g3, g4]; rfl⟩)))
/-- the way, how short, the kind -/
def wy : Nat → Int
  | 1 => 1
  | 2 => 1
  | 3 => -1
  | 4 => -1
  | _ => 0
def sh : Nat → Nat
  | 2 => 1
  | 4 => 1
  | _ => 0
def kd : Nat → Int
  | 1 => 2
  | 2 => 2
  | 3 => 1
  | 4 => 1
  | _ => 0
def flip : Nat → Nat
  | 1 => 3
  | 2 => 4
  | 3 => 1
  | 4 => 2
  | _ => 0
/-- a look, as the program keeps it -/
def lkv (k : Nat) : Value := .agg #[.int .i64 (wy k), .int .i64 (sh k : Nat), .int .i64 (kd k)]
/-- where the byte stands: number m of the places ahead or back of p, sk of them not looked at -/
def hit (l : List UInt8) (b : Int) (p m sk : Nat) : Nat → Option Nat
  | 1 => (hu (isb l b) (en l (bg l p) - (p + 1 + sk)) (p + 1 + sk))[m - 1]?
  | 2 => (hu (isb l b) (en l (bg l p) - (p + 1 + sk)) (p + 1 + sk))[m - 1]?
  | _ => (hd (isb l b) (p - sk - bg l p) (p - sk))[m - 1]?
/-- where the target lies -/
def tov (k q : Nat) : Int := (q : Int) - wy k * (sh k : Nat)
/-- an answer: from, to, how it is meant, the error -/
structure Ansr where
  fr : Int
  to : Int
  kind : Int
  err : Int
def res (p k : Nat) : Option Nat → Ansr
  | none => ⟨0, 0, 0, 70⟩
  | some q => ⟨p, tov k q, kd k, 0⟩
/-- is the question one that is answered -/
def okB (l : List UInt8) (i cnt : Int) : Bool := plB l i && decide (0 ≤ cnt) && decide (cnt ≤ 9999)
def mv (l : List UInt8) (i cnt key b : Int) : Ansr :=
  if okB l i cnt = true then if kq key = 0 then ⟨0, 0, 0, 2⟩ else res i.toNat (kq key) (hit l b i.toNat (max cnt 1).toNat 0 (kq key))
  else ⟨0, 0, 0, 2⟩
/-- the key once more, or the other way -/
def ky (t : Bool) (k : Nat) : Nat := bif t then flip k else k
def ag (l : List UInt8) (i cnt key b : Int) (t : Bool) : Ansr :=
  if okB l i cnt = true then if key = 0 then ⟨0, 0, 0, 70⟩ else if kq key = 0 then ⟨0, 0, 0, 2⟩ else res i.toNat (ky t (kq key)) (hit l b i.toNat (max cnt 1).toNat (sh (ky t (kq key))) (ky t (kq key)))
  else ⟨0, 0, 0, 2⟩
def mvE (a : Ansr) : Ending := .returned (.tuple #[.agg #[.int .i64 a.fr, .int .i64 a.to, .int .i64 a.kind], .int .i64 a.err])
theorem mvE_def (a : Ansr) : mvE a = .returned (.tuple #[.agg #[.int .i64 a.fr, .int .i64 a.to, .int .i64 a.kind], .int .i64 a.err]) := rfl
theorem ok_yes {l : List UInt8} {i cnt : Int} (h : okB l i cnt = true) : ∃ p : Nat, i = (p : Int) ∧ p ≤ l.length ∧ 0 ≤ cnt ∧ cnt ≤ 9999 := by
  unfold okB at h
  rw [Bool.and_eq_true, Bool.and_eq_true] at h
  obtain ⟨⟨h1, h2⟩, h3⟩ := h
  obtain ⟨p, rfl, hp⟩ := pl_yes h1
  exact ⟨p, rfl, hp, of_decide_eq_true h2, of_decide_eq_true h3⟩
theorem ok_no {l : List UInt8} {i cnt : Int} (h : okB l i cnt = false) : i < 0 ∨ (0 ≤ i ∧ (l.length : Int) < i) ∨ (0 ≤ i ∧ i ≤ l.length ∧ cnt < 0) ∨ (0 ≤ i ∧ i ≤ l.length ∧ 0 ≤ cnt ∧ 9999 < cnt) := by
  unfold okB plB at h
  rw [Bool.and_eq_false_iff, Bool.and_eq_false_iff] at h
  rcases h with (h | h) | h
  · have := of_decide_eq_false h; omega
  · have := of_decide_eq_false h; omega
  · have := of_decide_eq_false h; omega

set_option maxHeartbeats 1000000 in
theorem isWrong_any (ao : Option Addr) (n c : Nat) (i cnt : Int) (l : List UInt8) (w : World) (hl : l.length = n) :
    Calls Try.prog 19 #[.slice ao n c, .int .i64 i, .int .i64 cnt] w fun e w' => e = .returned (.bool (!(okB l i cnt))) ∧ w' = w := by
  subst hl
  cases h : okB l i cnt with
  | true =>
    obtain ⟨g0, g1, g2, g3⟩ : 0 ≤ i ∧ i ≤ (l.length : Int) ∧ 0 ≤ cnt ∧ cnt ≤ 9999 := by
      obtain ⟨p, rfl, hp, h0, h1⟩ := ok_yes h
      exact ⟨by omega, by omega, h0, h1⟩
    have d1 : decide (i < 0) = false := decide_eq_false (by omega)
    have d2 : decide ((l.length : Int) < i) = false := decide_eq_false (by omega)
    have d3 : decide (cnt < 0) = false := decide_eq_false (by omega)
    have d4 : decide (9999 < cnt) = false := decide_eq_false (by omega)
    clear h
    go_enter Try.func19, Try.ntmps19
    go_wp2
    go_ret
    exact ⟨rfl, rfl⟩
  | false =>
    rcases ok_no h with h1 | ⟨h0, h1⟩ | ⟨h0, h1, h2⟩ | ⟨h0, h1, h2, h3⟩
    all_goals
      clear h
      go_enter Try.func19, Try.ntmps19
      go_wp2
      go_ret
      exact ⟨rfl, rfl⟩
set_option maxHeartbeats 1000000 in
theorem bad_any (ao : Option Addr) (n c : Nat) (i cnt : Int) (l : List UInt8) (w : World) (hl : l.length = n) :
    Calls Try.prog 15 #[.slice ao n c, .int .i64 i, .int .i64 cnt] w fun e w' => e = .returned (.bool (!(okB l i cnt))) ∧ w' = w := by
  subst hl
  cases h : okB l i cnt with
  | true =>
    obtain ⟨g0, g1, g2, g3⟩ : 0 ≤ i ∧ i ≤ (l.length : Int) ∧ 0 ≤ cnt ∧ cnt ≤ 9999 := by
      obtain ⟨p, rfl, hp, h0, h1⟩ := ok_yes h
      exact ⟨by omega, by omega, h0, h1⟩
    have d1 : decide (i < 0) = false := decide_eq_false (by omega)
    have d2 : decide ((l.length : Int) < i) = false := decide_eq_false (by omega)
    have d3 : decide (cnt < 0) = false := decide_eq_false (by omega)
    have d4 : decide (9999 < cnt) = false := decide_eq_false (by omega)
    clear h
    go_enter Try.func15, Try.ntmps15
    go_wp2
    go_ret
    exact ⟨rfl, rfl⟩
  | false =>
    rcases ok_no h with h1 | ⟨h0, h1⟩ | ⟨h0, h1, h2⟩ | ⟨h0, h1, h2, h3⟩
    all_goals
      clear h
      go_enter Try.func15, Try.ntmps15
      go_wp2
      go_ret
      exact ⟨rfl, rfl⟩
set_option maxHeartbeats 1000000 in
theorem lookOf_any (k : Int) (w : World) : Calls Try.prog 18 #[.int .u8 k] w fun e w' => e = .returned (.tuple #[lkv (kq k), .bool (decide (kq k ≠ 0))]) ∧ Below w.heap.size w w' := by
  rcases kq_cases k with ⟨rfl, h⟩ | ⟨rfl, h⟩ | ⟨rfl, h⟩ | ⟨rfl, h⟩ | ⟨g1, g2, g3, g4, h⟩
  all_goals
    rw [h]
    clear h
    go_enter Try.func18, Try.ntmps18
    go_wp2
  · exact bodyPost_ret (v := .tuple #[lkv 1, .bool true]) (by simp [results, Try.results18, go_sem, lkv, wy, sh, kd]) rfl ⟨rfl, by repeat (first | exact bAlloc (Below.refl _ _) _ | refine Below.setCell ?_ (Nat.le_refl _) _)⟩
  · exact bodyPost_ret (v := .tuple #[lkv 2, .bool true]) (by simp [results, Try.results18, go_sem, lkv, wy, sh, kd]) rfl ⟨rfl, by repeat (first | exact bAlloc (Below.refl _ _) _ | refine Below.setCell ?_ (Nat.le_refl _) _)⟩
  · exact bodyPost_ret (v := .tuple #[lkv 3, .bool true]) (by simp [results, Try.results18, go_sem, lkv, wy, sh, kd]) rfl ⟨rfl, by repeat (first | exact bAlloc (Below.refl _ _) _ | refine Below.setCell ?_ (Nat.le_refl _) _)⟩
  · exact bodyPost_ret (v := .tuple #[lkv 4, .bool true]) (by simp [results, Try.results18, go_sem, lkv, wy, sh, kd]) rfl ⟨rfl, by repeat (first | exact bAlloc (Below.refl _ _) _ | refine Below.setCell ?_ (Nat.le_refl _) _)⟩
  · exact bodyPost_ret (v := .tuple #[lkv 0, .bool false]) (by simp [results, Try.results18, go_sem, lkv, wy, sh, kd]) rfl ⟨rfl, by repeat (first | exact bAlloc (Below.refl _ _) _ | refine Below.setCell ?_ (Nat.le_refl _) _)⟩
set_option maxHeartbeats 1000000 in
theorem isKey_any (k : Int) (w : World) : Calls Try.prog 16 #[.int .u8 k] w fun e w' => e = .returned (.bool (decide (kq k ≠ 0))) ∧ w' = w := by
  rcases kq_cases k with ⟨rfl, h⟩ | ⟨rfl, h⟩ | ⟨rfl, h⟩ | ⟨rfl, h⟩ | ⟨g1, g2, g3, g4, h⟩
  all_goals
    rw [h]
    clear h
    go_enter Try.func16, Try.ntmps16
    go_wp2
    go_ret
    exact ⟨rfl, rfl⟩
/-- the key that looks the other way -/
def ow (k : Int) : Int := if kq k = 1 then 70 else if kq k = 2 then 84 else if kq k = 3 then 102 else if kq k = 4 then 116 else k
theorem kq_ow (k : Int) : kq (ow k) = flip (kq k) := by
  rcases kq_cases k with ⟨rfl, h⟩ | ⟨rfl, h⟩ | ⟨rfl, h⟩ | ⟨rfl, h⟩ | ⟨g1, g2, g3, g4, h⟩
  · rfl
  · rfl
  · rfl
  · rfl
  · unfold ow; rw [h]; exact h
set_option maxHeartbeats 1000000 in
theorem otherWay_any (k : Int) (w : World) : Calls Try.prog 21 #[.int .u8 k] w fun e w' => e = .returned (.int .u8 (ow k)) ∧ w' = w := by
  unfold ow
  rcases kq_cases k with ⟨rfl, h⟩ | ⟨rfl, h⟩ | ⟨rfl, h⟩ | ⟨rfl, h⟩ | ⟨g1, g2, g3, g4, h⟩
  all_goals
    rw [h]
    clear h
    go_enter Try.func21, Try.ntmps21
    go_wp2
    go_ret
    exact ⟨rfl, rfl⟩
set_option maxHeartbeats 1000000 in
theorem lineAbout_any (ao : Option Addr) (n c p : Nat) (l : List UInt8) (w : World) (hp : p ≤ n) (HT : Hid (Tx w ao n c l)) :
    Calls Try.prog 25 #[.slice ao n c, .int .i64 p] w fun e w' => e = .returned (.tuple #[.int .i64 (bg l p : Nat), .int .i64 (en l (bg l p) : Nat)]) ∧ Below w.heap.size w w' := by
  have hl := HT.out.len
  have hpl : p ≤ l.length := by omega
  have A1 : Hid (pr (aOf l (p : Int)) = .returned (.tuple #[.int .i64 (nl (l.take p) : Nat), .int .i64 0])) := by
    unfold Hid pr aOf ans; rw [show plB l (p : Int) = true from decide_eq_true (by omega)]; rfl
  have hb : lnB l ((nl (l.take p) : Nat) : Int) = true := decide_eq_true (by have := nl_take_le l p; omega)
  have A2 : Hid (pr (aStart l ((nl (l.take p) : Nat) : Int)) = .returned (.tuple #[.int .i64 (bg l p : Nat), .int .i64 0])) := by
    unfold Hid pr aStart ans; rw [hb]; simp only [Int.toNat_natCast, sp_of l p hpl, if_true]
  have A3 : Hid (pr (aEnd l ((nl (l.take p) : Nat) : Int)) = .returned (.tuple #[.int .i64 (en l (bg l p) : Nat), .int .i64 0])) := by
    unfold Hid pr aEnd ans; rw [hb]; simp only [Int.toNat_natCast, sp_of l p hpl, if_true]
  have hbg := HT.out.big
  have h63 : ((nl (l.take p) : Nat) : Int) ≤ 9223372036854775807 := by have h1 := nl_take_le l p; have h2 := nl_le l; omega
  clear hbg
  clear hb hl hpl
  generalize nl (l.take p) = L at *
  go_enter Try.func25, Try.ntmps25
  go_wp2_with fail
  refine (of_any ao n c p l _ HT).mono ?_
  rintro e w1 ⟨rfl, hb1⟩
  rw [A1.out]
  have T1 := Hid.mk' (HT.out.keep hb1)
  have B1 := Hid.mk' hb1
  clear hb1
  go_wp2_with fail
  refine (start_any ao n c L l _ h63 T1).mono ?_
  rintro e w2 ⟨rfl, hw⟩
  have hq := hw.symm; subst hq; clear hw
  rw [A2.out]
  go_wp2_with fail
  refine (end_any ao n c L l _ h63 T1).mono ?_
  rintro e w2 ⟨rfl, hw⟩
  have hq := hw.symm; subst hq; clear hw
  rw [A3.out]
  go_wp2
  go_ret2
  exact ⟨rfl, B1.out⟩
end Go.Proofs.Ytinlkeionoghdaa
