/- The contracts of quoinref10's above and below: steps along a list of stops. -/
import Derived.Test.YtkapddemgodamaaDoorMot
namespace Go.Proofs.YtkapddemgodamaaDoor
open Go.RowKit

/-- a list of numbers in memory, to be read -/
def Il (w : World) (v : Value) (L : List Nat) : Prop := (v = .slice none 0 0 ∧ L = []) ∨ ∃ g c, v = .slice (some ⟨g, 0, none⟩) L.length c ∧ ∀ j, j < L.length → w.cell? ⟨g, j, none⟩ = some (.int .i64 (L.getD j 0 : Nat))
theorem Il.keep {w w' : World} {v : Value} {L : List Nat} (h : Il w v L) (hb : Below w.heap.size w w') : Il w' v L := by
  rcases h with h | ⟨g, c, e, h⟩
  · exact .inl h
  · exact .inr ⟨g, c, e, fun j hj => keepC hb (h j hj)⟩
/-- the first stop above p; the last below -/
def abv (p n : Nat) : List Nat → Nat
  | [] => n
  | x :: r => if p < x then x else abv p n r
def blw (p : Nat) (L : List Nat) : Nat := L.foldl (fun t x => if x < p then x else t) 0
def ab (L : List Nat) (n p : Nat) : Option Nat := if p = n then none else some (abv p n L)
def bw (L : List Nat) (p : Nat) : Option Nat := if p = 0 then none else some (blw p L)
def two (o : Option Nat) : Ending := .returned (.tuple #[.int .i64 (o.getD 0 : Nat), .int .i64 (if o = none then 70 else 0)])
theorem drop_at {L : List Nat} {k : Nat} (h : k < L.length) : L.drop k = L.getD k 0 :: L.drop (k + 1) := by
  rw [List.drop_eq_getElem_cons h]; simp [List.getD, h]
theorem take_at {L : List Nat} {k : Nat} (h : k < L.length) : L.take (k + 1) = L.take k ++ [L.getD k 0] := by
  rw [List.take_succ_eq_append_getElem h]; simp [List.getD, h]
theorem abv_le (p n : Nat) : ∀ L : List Nat, (∀ x ∈ L, x ≤ n) → abv p n L ≤ n
  | [], _ => Nat.le_refl _
  | x :: r, h => by
    unfold abv
    split
    · exact h x (List.mem_cons_self ..)
    · exact abv_le p n r fun y hy => h y (List.mem_cons_of_mem _ hy)
theorem blw_snoc (p : Nat) (L : List Nat) (x : Nat) : blw p (L ++ [x]) = if x < p then x else blw p L := by simp [blw]
theorem blw_le (p : Nat) (L : List Nat) : ∀ k, k ≤ L.length → blw p (L.take k) ≤ p
  | 0, _ => by simp [blw]
  | k + 1, h => by
    rw [take_at (by omega), blw_snoc]
    split
    · omega
    · exact blw_le p L k (by omega)

set_option maxHeartbeats 4000000 in
theorem above_any (ao : Option Addr) (n c p N : Nat) (v : Value) (L : List Nat) (w : World) (hp : p ≤ n) (_hn : n ≤ 140737488355328) (hN : N ≤ 9999) (hL : ∀ x ∈ L, x ≤ n) (hLn : L.length ≤ 140737488355328) (HL : Hid (Il w v L)) :
    Calls Tryd.prog 17 #[.slice ao n c, .int .i64 p, .int .i64 N, v] w fun e w' => e = two (it (ab L n) N p) ∧ w' = w := by
  obtain ⟨A, hA⟩ : ∃ A, A = it (ab L n) N p := ⟨_, rfl⟩
  rw [← hA]
  have HA := Hid.mk' hA.symm
  clear hA
  have HLL := Hid.mk' hL
  clear hL
  obtain ⟨av, cv, ev⟩ : ∃ av cv, v = .slice av L.length cv := by
    rcases HL.out with ⟨e, e2⟩ | ⟨g, c, e, _⟩
    · exact ⟨none, 0, by rw [e, e2]; rfl⟩
    · exact ⟨_, c, e⟩
  subst ev
  go_enter Tryd.func17, Tryd.ntmps17
  go_wp2
  go_loopg [10, 11] N (fun m x10 x11 wx => ∃ q j : Nat, x10 = .int .i64 q ∧ x11 = .int .i64 j ∧ j + m = N ∧ q ≤ n ∧ Hid (it (ab L n) m q = A) ∧ w = wx)
  case atStart => exact ⟨p, 0, rfl, rfl, by omega, hp, HA.out, rfl⟩
  case round =>
    obtain ⟨q, j, rfl, rfl, hj, hq, HI, rfl⟩ := hrel
    have hj0 : (0 : Int) ≤ (j : Int) := by omega
    have hj1 : (j : Int) ≤ 9999 := by omega
    cases gk with
    | zero =>
      have hjz : ¬ ((j : Int) < (N : Int)) := by omega
      have e : A = some q := HI.out.symm
      subst e
      go_wp2
      go_ret2
      exact ⟨rfl, rfl⟩
    | succ m =>
      have hjz : (j : Int) < (N : Int) := by omega
      by_cases hqn : q = n
      · have hb : ((q : Int) == (n : Int)) = true := by simp; omega
        have e : A = none := by have := HI.out; rw [← this]; unfold it ab; rw [if_pos hqn]; rfl
        subst e
        clear hqn
        go_wp2
        go_ret2
        exact ⟨rfl, rfl⟩
      · have hb : ((q : Int) == (n : Int)) = false := by simp; omega
        have HK : Hid (it (ab L n) m (abv q n L) = A) := by unfold Hid; have := HI.out; unfold it at this; rw [show ab L n q = some (abv q n L) by unfold ab; rw [if_neg hqn]] at this; exact this
        have hw : IntKind.i64.wrap ((L.length : Int) - 1) = (L.length : Int) - 1 := by rw [IntKind.wrap_i64]; omega
        clear hqn
        go_wp2
        go_loopg [12, 13] L.length (fun g x12 x13 wy => x12 = .int .i64 (abv q n (L.drop g) : Nat) ∧ x13 = .int .i64 ((g : Int) - 1) ∧ g ≤ L.length ∧ w = wy)
        case atStart => exact ⟨by rw [List.drop_length]; rfl, rfl, Nat.le_refl _, rfl⟩
        case round =>
          obtain ⟨rfl, hx, hg, rfl⟩ := hrel
          cases gk with
          | zero =>
            rw [show (((0 : Nat) : Int) - 1) = -1 by rfl] at hx
            subst hx
            have hle := abv_le q n L HLL.out
            rw [List.drop_zero]
            generalize abv q n L = z at *
            go_wp2
            go_roundg m
            case measure => omega
            case rel => exact ⟨z, j + 1, rfl, by go_num, by omega, hle, HK.out, rfl⟩
          | succ g =>
            rw [show (((g + 1 : Nat) : Int) - 1) = (g : Int) by omega] at hx
            subst hx
            have h0 : (0 : Int) ≤ (g : Int) := by omega
            have h1 : (g : Int) < (L.length : Int) := by omega
            have hw2 : IntKind.i64.wrap ((g : Int) - 1) = (g : Int) - 1 := by rw [IntKind.wrap_i64]; omega
            rcases HL.out with ⟨_, e2⟩ | ⟨gv, c2, e, hcl⟩
            · rw [e2] at hg; simp at hg
            · cases e
              have cg := hcl g (by omega)
              clear hcl
              have HD := Hid.mk' (drop_at (L := L) (k := g) (by omega))
              by_cases hlt : q < L.getD g 0
              · have hlt' : (q : Int) < ((L.getD g 0 : Nat) : Int) := by omega
                have HE : Hid (abv q n (L.drop g) = L.getD g 0) := by unfold Hid; rw [HD.out]; unfold abv; rw [if_pos hlt]
                clear hlt
                generalize L.getD g 0 = z at *
                go_wp2
                go_roundg g
                case measure => omega
                case rel => exact ⟨by rw [HE.out], rfl, by omega, rfl⟩
              · have hlt' : ¬ ((q : Int) < ((L.getD g 0 : Nat) : Int)) := by omega
                have HE : Hid (abv q n (L.drop g) = abv q n (L.drop (g + 1))) := by unfold Hid; rw [HD.out]; rw [abv, if_neg hlt]
                clear hlt
                generalize L.getD g 0 = z at *
                go_wp2
                go_roundg g
                case measure => omega
                case rel => exact ⟨by rw [HE.out], rfl, by omega, rfl⟩

set_option maxHeartbeats 4000000 in
theorem below_any (n p N : Nat) (v : Value) (L : List Nat) (w : World) (hp : p ≤ n) (_hn : n ≤ 140737488355328) (hN : N ≤ 9999) (hLn : L.length ≤ 140737488355328) (HL : Hid (Il w v L)) :
    Calls Tryd.prog 20 #[.int .i64 p, .int .i64 N, v] w fun e w' => e = two (it (bw L) N p) ∧ w' = w := by
  obtain ⟨A, hA⟩ : ∃ A, A = it (bw L) N p := ⟨_, rfl⟩
  rw [← hA]
  have HA := Hid.mk' hA.symm
  clear hA
  obtain ⟨av, cv, ev⟩ : ∃ av cv, v = .slice av L.length cv := by
    rcases HL.out with ⟨e, e2⟩ | ⟨g, c, e, _⟩
    · exact ⟨none, 0, by rw [e, e2]; rfl⟩
    · exact ⟨_, c, e⟩
  subst ev
  go_enter Tryd.func20, Tryd.ntmps20
  go_wp2
  go_loopg [8, 9] N (fun m x10 x11 wx => ∃ q j : Nat, x10 = .int .i64 q ∧ x11 = .int .i64 j ∧ j + m = N ∧ q ≤ n ∧ Hid (it (bw L) m q = A) ∧ w = wx)
  case atStart => exact ⟨p, 0, rfl, rfl, by omega, hp, HA.out, rfl⟩
  case round =>
    obtain ⟨q, j, rfl, rfl, hj, hq, HI, rfl⟩ := hrel
    have hj0 : (0 : Int) ≤ (j : Int) := by omega
    have hj1 : (j : Int) ≤ 9999 := by omega
    cases gk with
    | zero =>
      have hjz : ¬ ((j : Int) < (N : Int)) := by omega
      have e : A = some q := HI.out.symm
      subst e
      go_wp2
      go_ret2
      exact ⟨rfl, rfl⟩
    | succ m =>
      have hjz : (j : Int) < (N : Int) := by omega
      by_cases hqn : q = 0
      · have hb : ((q : Int) == 0) = true := by simp; omega
        have e : A = none := by have := HI.out; rw [← this]; unfold it bw; rw [if_pos hqn]; rfl
        subst e
        clear hqn
        go_wp2
        go_ret2
        exact ⟨rfl, rfl⟩
      · have hb : ((q : Int) == 0) = false := by simp; omega
        have HK : Hid (it (bw L) m (blw q L) = A) := by unfold Hid; have := HI.out; unfold it at this; rw [show bw L q = some (blw q L) by unfold bw; rw [if_neg hqn]] at this; exact this
        clear hqn
        go_wp2
        go_loopg [10, 11] L.length (fun g x12 x13 wy => ∃ k : Nat, x12 = .int .i64 (blw q (L.take k) : Nat) ∧ x13 = .int .i64 (k : Int) ∧ k + g = L.length ∧ w = wy)
        case atStart => exact ⟨0, rfl, rfl, by omega, rfl⟩
        case round =>
          obtain ⟨k, rfl, rfl, hg, rfl⟩ := hrel
          have h0 : (0 : Int) ≤ (k : Int) := by omega
          have hkb : (k : Int) ≤ 140737488355328 := by omega
          cases gk with
          | zero =>
            have h1 : ¬ ((k : Int) < (L.length : Int)) := by omega
            have hle := blw_le q L L.length (Nat.le_refl _)
            rw [show k = L.length by omega]
            rw [List.take_length] at hle ⊢
            have h2 : ¬ ((L.length : Int) < (L.length : Int)) := by omega
            generalize blw q L = z at *
            go_wp2
            go_roundg m
            case measure => omega
            case rel => exact ⟨z, j + 1, rfl, by go_num, by omega, by omega, HK.out, rfl⟩
          | succ g =>
            have h1 : (k : Int) < (L.length : Int) := by omega
            rcases HL.out with ⟨_, e2⟩ | ⟨gv, c2, e, hcl⟩
            · rw [e2] at hg; simp at hg
            · cases e
              have cg := hcl k (by omega)
              clear hcl
              have HD := Hid.mk' (take_at (L := L) (k := k) (by omega))
              by_cases hlt : L.getD k 0 < q
              · have hlt' : ((L.getD k 0 : Nat) : Int) < (q : Int) := by omega
                have HE : Hid (blw q (L.take (k + 1)) = L.getD k 0) := by unfold Hid; rw [HD.out, blw_snoc, if_pos hlt]
                clear hlt
                generalize L.getD k 0 = z at *
                go_wp2
                go_roundg g
                case measure => omega
                case rel => exact ⟨k + 1, by rw [HE.out], by go_num, by omega, rfl⟩
              · have hlt' : ¬ (((L.getD k 0 : Nat) : Int) < (q : Int)) := by omega
                have HE : Hid (blw q (L.take (k + 1)) = blw q (L.take k)) := by unfold Hid; rw [HD.out, blw_snoc, if_neg hlt]
                clear hlt
                generalize L.getD k 0 = z at *
                go_wp2
                go_roundg g
                case measure => omega
                case rel => exact ⟨k + 1, by rw [HE.out], by go_num, by omega, rfl⟩
end Go.Proofs.YtkapddemgodamaaDoor
