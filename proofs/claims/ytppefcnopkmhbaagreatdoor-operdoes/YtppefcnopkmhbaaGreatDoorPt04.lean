/- Edt, Fit -/
import Derived.Test.YtppefcnopkmhbaaGreatDoorPt03
import Derived.Laws.MakeOwn
namespace Go.Proofs.YtppefcnopkmhbaaGreatDoor
open Go.RowKit

set_option maxRecDepth 8000
/-- an edit as a value, with its texts -/
structure Er where
  a : Int
  p1 : Option Addr
  o : Nat
  c1 : Nat
  O : List UInt8
  p2 : Option Addr
  n : Nat
  c2 : Nat
  N : List UInt8
def Er.cs (r : Er) : Array Value := #[.int .i64 r.a, .slice r.p1 r.o r.c1, .slice r.p2 r.n r.c2]
def Er.d (r : Er) : Ed := ⟨r.a, r.O, r.N⟩
/-- edits in memory -/
def Edr (W : World) (ao : Option Addr) (E : List Er) : Prop := ∀ (k : Nat) (r : Er), E[k]? = some r → ∃ g o, ao = some ⟨g, o, none⟩ ∧ W.cell? ⟨g, o + k * 3, none⟩ = some (.int .i64 r.a) ∧ W.cell? ⟨g, o + k * 3 + 1, none⟩ = some (.slice r.p1 r.o r.c1) ∧ W.cell? ⟨g, o + k * 3 + 2, none⟩ = some (.slice r.p2 r.n r.c2)
theorem Edr.keep {W W' : World} {ao : Option Addr} {E : List Er} (h : Edr W ao E) (hb : Below W.heap.size W W') : Edr W' ao E := fun k r hk => by
  obtain ⟨g, o, h0, h1, h2, h3⟩ := h k r hk
  exact ⟨g, o, h0, cell_keep h1 hb, cell_keep h2 hb, cell_keep h3 hb⟩
/-- the three cells of an edit -/
structure Ed3 (W : World) (g o : Nat) (a : Int) (p1 : Option Addr) (o1 c1 : Nat) (p2 : Option Addr) (n2 c2 : Nat) : Prop where
  e0 : W.cell? ⟨g, o, none⟩ = some (.int .i64 a)
  e1 : W.cell? ⟨g, o + 1, none⟩ = some (.slice p1 o1 c1)
  e2 : W.cell? ⟨g, o + 2, none⟩ = some (.slice p2 n2 c2)
theorem Ed3.keep {W W' : World} {g o o1 c1 n2 c2 : Nat} {a : Int} {p1 p2 : Option Addr} (h : Ed3 W g o a p1 o1 c1 p2 n2 c2) (hb : Below W.heap.size W W') : Ed3 W' g o a p1 o1 c1 p2 n2 c2 := ⟨cell_keep h.e0 hb, cell_keep h.e1 hb, cell_keep h.e2 hb⟩
theorem Ed3.lt {W : World} {g o o1 c1 n2 c2 : Nat} {a : Int} {p1 p2 : Option Addr} (h : Ed3 W g o a p1 o1 c1 p2 n2 c2) : g < W.heap.size := lt_of_cell h.e0
theorem Ed3.off {W W' : World} {g o o1 c1 n2 c2 : Nat} {a : Int} {p1 p2 : Option Addr} {r : Option Nat} (h : Ed3 W g o a p1 o1 c1 p2 n2 c2) (hg : W.grownBy W' r) (hne : some g ≠ r) : Ed3 W' g o a p1 o1 c1 p2 n2 c2 := by
  have hb := hg.block g h.lt hne
  exact ⟨by rw [World.cell?_of_block hb]; exact h.e0, by rw [World.cell?_of_block hb]; exact h.e1, by rw [World.cell?_of_block hb]; exact h.e2⟩
theorem Edr.ed3 {W : World} {ao : Option Addr} {E : List Er} {k : Nat} {r : Er} (h : Edr W ao E) (hk : E[k]? = some r) : ∃ g o, ao = some ⟨g, o, none⟩ ∧ Ed3 W g (o + k * 3) r.a r.p1 r.o r.c1 r.p2 r.n r.c2 := by
  obtain ⟨g, o, h0, h1, h2, h3⟩ := h k r hk
  exact ⟨g, o, h0, h1, h2, h3⟩
/-- an edit whose texts lie in memory -/
structure Et (W : World) (r : Er) : Prop where
  t1 : Tx W r.p1 r.o r.c1 r.O
  t2 : Tx W r.p2 r.n r.c2 r.N
  b1 : r.o ≤ 140737488355328
  b2 : r.n ≤ 140737488355328
theorem Et.keep {W W' : World} {r : Er} (h : Et W r) (hb : Below W.heap.size W W') : Et W' r := ⟨h.t1.keep hb, h.t2.keep hb, h.b1, h.b2⟩
/-- edits in memory, with their texts -/
structure Edz (W : World) (ao : Option Addr) (E : List Er) : Prop where
  row : Edr W ao E
  txs : ∀ (k : Nat) (r : Er), E[k]? = some r → Et W r
theorem Edz.keep {W W' : World} {ao : Option Addr} {E : List Er} (h : Edz W ao E) (hb : Below W.heap.size W W') : Edz W' ao E := ⟨h.row.keep hb, fun k r hk => (h.txs k r hk).keep hb⟩
/-- edits as cells -/
def ecs (F : List Er) : List Value := F.flatMap fun r => r.cs.toList
theorem ecs_len (F : List Er) : (ecs F).length = F.length * 3 := by
  induction F with
  | nil => rfl
  | cons r F ih => show (r.cs.toList ++ ecs F).length = _; rw [List.length_append, ih, List.length_cons]; simp [Er.cs]; omega
theorem ecs_snoc (F : List Er) (r : Er) : ecs (F ++ [r]) = ecs F ++ r.cs.toList := by simp [ecs]
theorem ecs_at {F : List Er} {k : Nat} {r : Er} (h : F[k]? = some r) : (ecs F)[k * 3]? = some (.int .i64 r.a) ∧ (ecs F)[k * 3 + 1]? = some (.slice r.p1 r.o r.c1) ∧ (ecs F)[k * 3 + 2]? = some (.slice r.p2 r.n r.c2) := by
  induction F generalizing k with
  | nil => simp at h
  | cons x F ih =>
    cases k with
    | zero => simp at h; subst h; exact ⟨rfl, rfl, rfl⟩
    | succ k =>
      rw [List.getElem?_cons_succ] at h
      obtain ⟨h1, h2, h3⟩ := ih h
      have e : ∀ j, (ecs (x :: F))[(k + 1) * 3 + j]? = (ecs F)[k * 3 + j]? := fun j => by
        show (x.cs.toList ++ ecs F)[(k + 1) * 3 + j]? = _
        rw [List.getElem?_append_right (by simp [Er.cs]; omega)]
        congr 1; simp [Er.cs]; omega
      exact ⟨(e 0).trans h1, (e 1).trans h2, (e 2).trans h3⟩
theorem info38 : (Tryz.prog.info? 65).map (fun i => (i.zero, i.size, i.bytes)) = some (some (.agg #[.int .i64 0, .slice none 0 0, .slice none 0 0]), 3, 56) := by kernel_rfl
theorem er_one (r : Er) : ∀ u ∈ r.cs.toList, u.oneCell' = true := by
  intro u hu
  simp [Er.cs] at hu
  rcases hu with rfl | rfl | rfl <;> rfl
theorem Edr.srv {W : World} {ao : Option Addr} {n c : Nat} {E : List Er} (h : Edr W ao E) (hn : E.length = n) (hc : ao = none → c = 0) : Srv W (.slice ao n c) n (ecs E) := by
  cases ao with
  | none =>
    cases E with
    | nil => subst hn; rw [hc rfl]; exact .inl ⟨rfl, rfl, rfl⟩
    | cons r E =>
      obtain ⟨g, o, h0, _⟩ := h 0 r rfl
      cases h0
  | some ad =>
    refine .inr ⟨ad, c, rfl, fun j t hj => ?_⟩
    have hl := (List.getElem?_eq_some_iff.1 hj).1
    rw [ecs_len] at hl
    obtain ⟨k, i, rfl, hi⟩ : ∃ k i, j = k * 3 + i ∧ i < 3 := ⟨j / 3, j % 3, by omega, by omega⟩
    obtain ⟨r, hr⟩ : ∃ r, E[k]? = some r := ⟨_, List.getElem?_eq_getElem (by omega)⟩
    obtain ⟨g, o, h0, h1, h2, h3⟩ := h k r hr
    obtain ⟨z1, z2, z3⟩ := ecs_at hr
    have e0 : ad = ⟨g, o, none⟩ := by simpa using h0
    subst e0
    rw [add_none, ← Nat.add_assoc]
    match i, hi, hj with
    | 0, _, hj => rw [Nat.add_zero, z1] at hj; cases hj; exact h1
    | 1, _, hj => rw [z2] at hj; cases hj; exact h2
    | 2, _, hj => rw [z3] at hj; cases hj; exact h3
/-- a row of one's own reads as edits -/
theorem own_edr {W : World} {base n : Nat} {v : Value} {E : List Er} (h : W.ownsRow base 65 3 v n (ecs E)) : ∃ ao c, v = .slice ao n c ∧ Edr W ao E ∧ E.length = n := by
  have hl : E.length = n := by have := h.1; rw [ecs_len] at this; omega
  rcases h.2 with ⟨rfl, rfl⟩ | ⟨g, cap, cur, rfl, h1, h2, h3, h4, h5, h6⟩
  · have : E = [] := List.eq_nil_of_length_eq_zero hl
    subst this
    exact ⟨none, 0, rfl, fun k r hk => by simp at hk, rfl⟩
  · refine ⟨_, cap, rfl, fun k r hk => ?_, hl⟩
    have hk' := (List.getElem?_eq_some_iff.1 hk).1
    obtain ⟨z1, z2, z3⟩ := ecs_at hk
    have e : ∀ (j : Nat) (u : Value), j < 3 → (ecs E)[k * 3 + j]? = some u → W.cell? ⟨g, 0 + k * 3 + j, none⟩ = some u := fun j u hj hu => by
      rw [Nat.zero_add, h.cellAt (k * 3 + j) (by omega)]; exact hu
    exact ⟨g, 0, rfl, e 0 _ (by omega) z1, e 1 _ (by omega) z2, e 2 _ (by omega) z3⟩
end Go.Proofs.YtppefcnopkmhbaaGreatDoor

namespace Go.Proofs.YtppefcnopkmhbaaGreatDoor
open Go.RowKit

set_option maxRecDepth 8000
theorem below_drewN (w : World) (n : Nat) : Below w.heap.size w (w.drewN n) := ⟨rfl, rfl, rfl, Nat.le_refl _, fun _ _ => rfl⟩
set_option maxHeartbeats 4000000 in
theorem prefix_any (a1 : Option Addr) (n1 c1 : Nat) (l1 : List UInt8) (a2 : Option Addr) (n2 c2 : Nat) (l2 : List UInt8) (w : World) (h1 : Hid (Tx w a1 n1 c1 l1)) (h2 : Hid (Tx w a2 n2 c2 l2)) :
    Calls Tryz.prog 124 #[.slice a1 n1 c1, .slice a2 n2 c2] w fun e w' => e = .returned (.bool (l1.take l2.length == l2)) ∧ w' = w := by
  have e2 := h2.out.len
  have e1 := h1.out.len
  by_cases hle : n2 ≤ n1
  · have hz1 : (n2 : Int) ≤ (n1 : Int) := by omega
    obtain ⟨a3, c3, hs3, hT3⟩ := sl_h h1.out (m := n2) hle
    have C := Hid.mk' (equal_any a3 n2 c3 (l1.take n2) a2 n2 c2 l2 w hT3 h2)
    rw [e2]
    generalize (l1.take n2 == l2) = q at *
    clear hT3 hle h1 h2 e1 e2
    go_enter Tryz.func124, Tryz.ntmps124
    go_wp2_with (first | (go_at_call 79; refine C.out.mono ?_; rintro e w1 ⟨rfl, rfl⟩) | fail)
    go_ret
    exact ⟨rfl, rfl⟩
  · have hz1 : ¬ (n2 : Int) ≤ (n1 : Int) := by omega
    have hq : (l1.take l2.length == l2) = false := by
      cases hb : (l1.take l2.length == l2) with
      | false => rfl
      | true =>
        have := congrArg List.length (eq_of_beq hb)
        rw [List.length_take] at this
        omega
    rw [hq]
    clear hle h1 h2 e1 e2 hq
    go_enter Tryz.func124, Tryz.ntmps124
    go_wp2
    go_ret
    exact ⟨rfl, rfl⟩
set_option maxHeartbeats 4000000 in
theorem efits_any (ao : Option Addr) (n c : Nat) (T : List UInt8) (r : Er) (w : World) (hT : Hid (Tx w ao n c T)) (hE : Hid (Et w r)) :
    Calls Tryz.prog 94 #[.slice ao n c, .agg r.cs] w fun e w' => e = .returned (.bool (fitB T r.d)) ∧ Below w.heap.size w w' := by
  obtain ⟨a, p1, o, c1, O, p2, n2, c2, N⟩ := r
  show Calls Tryz.prog 94 #[.slice ao n c, .agg #[.int .i64 a, .slice p1 o c1, .slice p2 n2 c2]] w fun e w' => e = .returned (.bool (fitB T (Er.d ⟨a, p1, o, c1, O, p2, n2, c2, N⟩))) ∧ Below w.heap.size w w'
  have hn := hT.out.len
  have ho := hE.out.t1.len
  dsimp only at ho
  generalize hW1 : w.alloc (.cells #[.int .i64 a, .slice p1 o c1, .slice p2 n2 c2] 65) = W1
  have K0 : Hid (Blk W1 w.heap.size 65 #[.int .i64 a, .slice p1 o c1, .slice p2 n2 c2]) := by subst hW1; exact Blk.new w 65 _
  have L0 : Hid (Below w.heap.size w W1) := by subst hW1; exact bAlloc (Below.refl _ _) _
  obtain ⟨q, hq⟩ : ∃ q, q = w.heap.size := ⟨_, rfl⟩
  rw [← hq] at K0
  have k0 : W1.cell? ⟨q, 0, none⟩ = some (.int .i64 a) := K0.out.cell rfl
  have k1 : W1.cell? ⟨q, 1, none⟩ = some (.slice p1 o c1) := K0.out.cell rfl
  have hqr : w.heap.size = q := hq.symm
  by_cases ha : 0 ≤ a
  · obtain ⟨p, rfl⟩ : ∃ p : Nat, a = (p : Int) := ⟨a.toNat, by omega⟩
    by_cases hp : p ≤ n
    · have hf : fitB T (Er.d ⟨(p : Int), p1, o, c1, O, p2, n2, c2, N⟩) = ((T.drop p).take O.length == O) := by
        unfold fitB Er.d
        dsimp only
        rw [decide_eq_true (show (0 : Int) ≤ (p : Int) by omega), decide_eq_true (show (p : Int) ≤ (T.length : Int) by omega)]
        simp
      rw [hf]
      have hz1 : (0 : Int) ≤ (p : Int) := by omega
      have hz2 : (p : Int) ≤ (n : Int) := by omega
      obtain ⟨a3, c3, hs3, hT3⟩ := sl_l (hT.out.keep L0.out) (lo := p) (z := (p : Int)) hp rfl
      have C := Hid.mk' (fun W (hb : Below W1.heap.size W1 W) => prefix_any a3 (n - p) c3 (T.drop p) p1 o c1 O W (hT3.keep hb) ((hE.out.t1.keep L0.out).keep hb))
      generalize ((T.drop p).take O.length == O) = b at *
      clear hT3 hf hT hE hq hp ha hn ho
      go_enter Tryz.func94, Tryz.ntmps94
      go_upto_region 1 with fail
      clear hW1 hqr
      go_quiet (first | (go_at_call 124; exact Calls.quiet_of_same (C.out _ (below_drewN _ _))) | fail)
      go_wp2
      go_ret
      exact ⟨rfl, bT L0.out (below_drewN _ _)⟩
    · have hf : fitB T (Er.d ⟨(p : Int), p1, o, c1, O, p2, n2, c2, N⟩) = false := by
        unfold fitB Er.d
        dsimp only
        rw [decide_eq_false (show ¬ (p : Int) ≤ (T.length : Int) by omega)]
        simp
      rw [hf]
      have hz1 : (0 : Int) ≤ (p : Int) := by omega
      have hz2 : decide ((p : Int) ≤ (n : Int)) = false := decide_eq_false (by omega)
      have hz3 : decide (p ≤ n) = false := decide_eq_false (by omega)
      have hz4 : ¬ p ≤ n := by omega
      clear hf hT hE hq hp ha hn ho
      go_enter Tryz.func94, Tryz.ntmps94
      go_upto_region 1 with fail
      clear hW1 hqr
      go_quiet (fail)
      go_wp2
      go_ret
      exact ⟨rfl, bT L0.out (below_drewN _ _)⟩
  · have hf : fitB T (Er.d ⟨a, p1, o, c1, O, p2, n2, c2, N⟩) = false := by
      unfold fitB Er.d
      dsimp only
      rw [decide_eq_false (show ¬ (0 : Int) ≤ a by omega)]
      simp
    rw [hf]
    have hz1 : decide ((0 : Int) ≤ a) = false := decide_eq_false (by omega)
    clear hf hT hE hq hn ho
    go_enter Tryz.func94, Tryz.ntmps94
    go_upto_region 1 with fail
    clear hW1 hqr
    go_quiet (fail)
    go_wp2
    go_ret
    exact ⟨rfl, bT L0.out (below_drewN _ _)⟩
end Go.Proofs.YtppefcnopkmhbaaGreatDoor
