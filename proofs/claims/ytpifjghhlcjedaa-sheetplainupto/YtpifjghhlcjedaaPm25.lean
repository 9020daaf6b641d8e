/- The law's sameRows (of shade): two lists of the same rows. -/
import Derived.Test.YtpifjghhlcjedaaPm06
import Derived.Test.YtpifjghhlcjedaaPm23
import Derived.Test.YtpifjghhlcjedaaPm24
import Derived.Laws.OwnMore
namespace Go.Proofs.Ytpifjghhlcjedaa
open Go.RowKit

theorem rcells_atS {L : List Rw} {m : Nat} {r : Rw} (h : L[m]? = some r) (i : Nat) (hi : i < 10) : (rcells L)[m * 10 + i]? = r.cs[i]? := by
  have hlt := (List.getElem?_eq_some_iff.1 h).1
  have e : L = L.take m ++ r :: L.drop (m + 1) := by
    conv => lhs; rw [← List.take_append_drop m L]
    rw [List.drop_eq_getElem_cons hlt]
    obtain ⟨_, e⟩ := List.getElem?_eq_some_iff.1 h
    rw [e]
  have l1 : (rcells (L.take m)).length = m * 10 := by rw [rcells_length, List.length_take]; omega
  conv => lhs; rw [e]
  unfold rcells at l1 ⊢
  rw [List.flatMap_append, List.getElem?_append_right (by omega), l1, List.flatMap_cons, List.getElem?_append_left (by simp [Rw.cs]; omega)]
  congr 1
  omega

/-- the ten cells of row number m -/
structure Ten (w : World) (g m : Nat) (r : Rw) : Prop where
  c0 : w.cell? ⟨g, m * 10, none⟩ = some (.int .i64 r.p.s)
  c1 : w.cell? ⟨g, m * 10 + 1, none⟩ = some (.int .i64 r.p.o)
  c2 : w.cell? ⟨g, m * 10 + 2, none⟩ = some (.int .i64 r.p.l)
  c3 : w.cell? ⟨g, m * 10 + 3, none⟩ = some (.int .i64 r.p.n)
  c4 : w.cell? ⟨g, m * 10 + 4, none⟩ = some (.bool r.red)
  c5 : w.cell? ⟨g, m * 10 + 5, none⟩ = some (.bool r.left)
  c6 : w.cell? ⟨g, m * 10 + 6, none⟩ = some (.bool r.right)
  c7 : w.cell? ⟨g, m * 10 + 7, none⟩ = some (.int .i64 r.cnt)
  c8 : w.cell? ⟨g, m * 10 + 8, none⟩ = some (.int .i64 r.byt)
  c9 : w.cell? ⟨g, m * 10 + 9, none⟩ = some (.int .i64 r.lin)

theorem own_ten {w : World} {B n c : Nat} {ao : Option Addr} {L : List Rw} {m : Nat} {r : Rw} (h : w.ownsRow B 53 10 (.slice ao n c) n (rcells L)) (hp : L[m]? = some r) (hn : L.length = n) :
    ∃ g, ao = some ⟨g, 0, none⟩ ∧ Ten w g m r := by
  have hlt := (List.getElem?_eq_some_iff.1 hp).1
  rcases h.2 with ⟨_, h0⟩ | ⟨g, cap, cur, e, _⟩
  · omega
  · cases e
    have hc := fun i (hi : i < 10) => (h.cellAt (m * 10 + i) (by omega)).trans (rcells_atS hp i hi)
    exact ⟨g, rfl, by simpa [Rw.cs] using hc 0 (by omega), by simpa [Rw.cs] using hc 1 (by omega), by simpa [Rw.cs] using hc 2 (by omega), by simpa [Rw.cs] using hc 3 (by omega), by simpa [Rw.cs] using hc 4 (by omega), by simpa [Rw.cs] using hc 5 (by omega), by simpa [Rw.cs] using hc 6 (by omega), by simpa [Rw.cs] using hc 7 (by omega), by simpa [Rw.cs] using hc 8 (by omega), by simpa [Rw.cs] using hc 9 (by omega)⟩

set_option maxRecDepth 100000 in
set_option maxHeartbeats 4000000 in
theorem sameRows_any (a1 : Option Addr) (c1 : Nat) (a2 : Option Addr) (c2 B1 B2 n : Nat) (L : List Rw) (w : World) (hz : n ≤ 1048576) (hL : Hid (L.length = n)) (h1 : Hid (w.ownsRow B1 53 10 (.slice a1 n c1) n (rcells L))) (h2 : Hid (w.ownsRow B2 53 10 (.slice a2 n c2) n (rcells L))) :
    Calls Try.prog 22 #[.slice a1 n c1, .slice a2 n c2] w fun e w' => e = .returned (.bool true) ∧ Below w.heap.size w w' := by
  go_enter Try.func22, Try.ntmps22
  go_wp2
  go_loopw [5] (fun i wq => ∃ m : Nat, m ≤ n ∧ i = .int .i64 m ∧ Below w.heap.size w wq) (fun i _ => n - (intOf i).toNat)
  case atStart => exact ⟨0, Nat.zero_le _, rfl, Below.refl _ _⟩
  case round =>
    obtain ⟨m, hm, rfl, hb⟩ := hrel
    have HB : Hid (Below w.heap.size w wr) := hb
    clear hb
    by_cases hmt : m < n
    · have hl := hL.out
      obtain ⟨p, hp⟩ : ∃ p, L[m]? = some p := ⟨_, List.getElem?_eq_getElem (by omega)⟩
      obtain ⟨g1, e1, r0, r1, r2, r3, r4, r5, r6, r7, r8, r9⟩ := own_ten h1.out hp hl
      obtain ⟨g2, e2, q0, q1, q2, q3, q4, q5, q6, q7, q8, q9⟩ := own_ten h2.out hp hl
      subst e1 e2
      have kk := bcell HB.out
      have hg1 : g1 < w.heap.size := (h1.out.lt g1 rfl).2
      have hg2 : g2 < w.heap.size := (h2.out.lt g2 rfl).2
      have k1 := fun o => kk.1 g1 o hg1
      have k2 := fun o => kk.1 g2 o hg2
      rw [← k1] at r0 r1 r2 r3 r4 r5 r6 r7 r8 r9
      rw [← k2] at q0 q1 q2 q3 q4 q5 q6 q7 q8 q9
      obtain ⟨⟨s, o, l, nn⟩, b1, b2, b3, x1, x2, x3⟩ := p
      simp only at r0 r1 r2 r3 r4 r5 r6 r7 r8 r9 q0 q1 q2 q3 q4 q5 q6 q7 q8 q9
      have hm0 : (0 : Int) ≤ (m : Int) := by omega
      have hml : (m : Int) < (n : Int) := by omega
      clear hp hl kk k1 k2
      go_wp2
      go_region
      go_wp2
      go_roundw
      case rel => exact ⟨m + 1, by omega, by go_num, HB.out.drew⟩
      case measure => simp [intOf]; omega
    · obtain rfl : m = n := by omega
      go_wp2
      go_ret
      exact ⟨rfl, HB.out⟩
end Go.Proofs.Ytpifjghhlcjedaa

/- quoinlaw04.height of a tree's rows: its height, and how many rows it takes up; quoinlaw04.line and starts. -/
namespace Go.Proofs.Ytpifjghhlcjedaa
open Go.RowKit

theorem size_has {t : Tr} (h : t.has = true) : 1 ≤ t.size := by
  cases t using Tr.el with
  | nil => cases h
  | node c l p r => simp only [Tr.size]; omega
theorem size_none {t : Tr} (h : t.has = false) : t.size = 0 ∧ t.ht = 0 := by
  cases t using Tr.el with
  | nil => exact ⟨rfl, rfl⟩
  | node c l p r => cases h
theorem ht_size : ∀ t : Tr, t.ht ≤ t.size
  | (Tr.mk none) => Nat.le_refl _
  | (Tr.mk (some (_, l, _, r))) => by
    have h1 := ht_size l
    have h2 := ht_size r
    simp only [Tr.ht, Tr.size]; omega

set_option maxHeartbeats 2000000 in
/-- a node, its sides told -/
theorem height_node (ao : Option Addr) (n c B m : Nat) (L : List Rw) (rw0 : Rw) (hl sl hr sr : Nat) (w : World) (hn : n ≤ 1048576) (hL : Hid (L.length = n)) (ho : Hid (w.ownsRow B 53 10 (.slice ao n c) n (rcells L))) (hm : Hid (L[m]? = some rw0))
    (kl : rw0.left = true → m + 1 < n ∧ Calls Try.prog 39 #[.slice ao n c, .int .i64 ((m : Int) + 1)] w fun e w' => e = .returned (.tuple #[.int .i64 (hl : Int), .int .i64 (sl : Int)]) ∧ w' = w)
    (kr : rw0.right = true → m + 1 + sl < n ∧ Calls Try.prog 39 #[.slice ao n c, .int .i64 ((m : Int) + (1 + (sl : Int)))] w fun e w' => e = .returned (.tuple #[.int .i64 (hr : Int), .int .i64 (sr : Int)]) ∧ w' = w)
    (zl : rw0.left = false → hl = 0 ∧ sl = 0) (zr : rw0.right = false → hr = 0 ∧ sr = 0) (hhl : hl ≤ 1048576) (hhr : hr ≤ 1048576) (hsl : sl ≤ 1048576) (hsr : sr ≤ 1048576) :
    Calls Try.prog 39 #[.slice ao n c, .int .i64 (m : Int)] w fun e w' => e = .returned (.tuple #[.int .i64 ((max hl hr + 1 : Nat) : Int), .int .i64 ((1 + sl + sr : Nat) : Int)]) ∧ w' = w := by
  have hmn : m < n := by have := (List.getElem?_eq_some_iff.1 hm.out).1; have := hL.out; omega
  obtain ⟨g, rfl, t0, t1, t2, t3, t4, t5, t6, t7, t8, t9⟩ := own_ten ho.out hm.out hL.out
  obtain ⟨pp, red, lf, rg, x1, x2, x3⟩ := rw0
  dsimp only at *
  have hm0 : (0 : Int) ≤ (m : Int) := by omega
  have hm1 : (m : Int) < (n : Int) := by omega
  have hm2 : (m : Int) ≤ 1048576 := by omega
  have a1 : (hl : Int) ≤ 1048576 := by omega
  have a2 : (hr : Int) ≤ 1048576 := by omega
  have a3 : (sl : Int) ≤ 1048576 := by omega
  have a4 : (sr : Int) ≤ 1048576 := by omega
  have a5 : (0 : Int) ≤ (sl : Int) := by omega
  have a6 : (0 : Int) ≤ (sr : Int) := by omega
  have a7 : (0 : Int) ≤ (hl : Int) := by omega
  have a8 : (0 : Int) ≤ (hr : Int) := by omega
  clear t0 t1 t2 t3 t4 t7 t8 t9
  cases lf with
  | true =>
    obtain ⟨k1, K1⟩ := kl rfl
    have KL := hid K1
    have k1' : (m : Int) + 1 < (n : Int) := by omega
    clear K1 zl kl
    cases rg with
    | true =>
      obtain ⟨k2, K2⟩ := kr rfl
      have KR := hid K2
      have k2' : (m : Int) + (1 + (sl : Int)) < (n : Int) := by omega
      clear K2 zr kr
      rw [show ((1 + sl + sr : Nat) : Int) = 1 + (sl : Int) + (sr : Int) from by omega]
      by_cases hc : hl < hr
      · rw [show ((max hl hr + 1 : Nat) : Int) = (hr : Int) + 1 from by omega]
        go_enter Try.func39, Try.ntmps39
        go_wp2_with fail
        refine KL.out.mono ?_
        rintro e9 w9 ⟨rfl, hw⟩
        have hq := hw.symm
        subst hq
        clear hw
        go_wp2_with fail
        refine KR.out.mono ?_
        rintro e9 w9 ⟨rfl, hw⟩
        have hq := hw.symm
        subst hq
        clear hw
        go_wp2
        go_ret2
        exact ⟨rfl, rfl⟩
      · rw [show ((max hl hr + 1 : Nat) : Int) = (hl : Int) + 1 from by omega]
        go_enter Try.func39, Try.ntmps39
        go_wp2_with fail
        refine KL.out.mono ?_
        rintro e9 w9 ⟨rfl, hw⟩
        have hq := hw.symm
        subst hq
        clear hw
        go_wp2_with fail
        refine KR.out.mono ?_
        rintro e9 w9 ⟨rfl, hw⟩
        have hq := hw.symm
        subst hq
        clear hw
        go_wp2
        go_ret2
        exact ⟨rfl, rfl⟩
    | false =>
      obtain ⟨rfl, rfl⟩ := zr rfl
      clear zr kr
      rw [show ((max hl 0 + 1 : Nat) : Int) = (hl : Int) + 1 from by omega, show ((1 + sl + 0 : Nat) : Int) = 1 + (sl : Int) from by omega]
      go_enter Try.func39, Try.ntmps39
      go_wp2_with fail
      refine KL.out.mono ?_
      rintro e9 w9 ⟨rfl, hw⟩
      have hq := hw.symm
      subst hq
      clear hw
      go_wp2
      go_ret2
      exact ⟨rfl, rfl⟩
  | false =>
    obtain ⟨rfl, rfl⟩ := zl rfl
    clear zl kl
    cases rg with
    | true =>
      obtain ⟨k2, K2⟩ := kr rfl
      have KR := hid (show Calls Try.prog 39 #[.slice (some ⟨g, 0, none⟩) n c, .int .i64 ((m : Int) + 1)] w fun e w' => e = .returned (.tuple #[.int .i64 (hr : Int), .int .i64 (sr : Int)]) ∧ w' = w from K2)
      have k2' : (m : Int) + 1 < (n : Int) := by omega
      clear K2 zr kr
      rw [show ((max 0 hr + 1 : Nat) : Int) = (hr : Int) + 1 from by omega, show ((1 + 0 + sr : Nat) : Int) = 1 + (sr : Int) from by omega]
      by_cases hc : 0 < hr
      · have hc' : (0 : Int) < (hr : Int) := by omega
        go_enter Try.func39, Try.ntmps39
        go_wp2_with fail
        refine KR.out.mono ?_
        rintro e9 w9 ⟨rfl, hw⟩
        have hq := hw.symm
        subst hq
        clear hw
        go_wp2
        go_ret2
        exact ⟨rfl, rfl⟩
      · obtain rfl : hr = 0 := by omega
        go_enter Try.func39, Try.ntmps39
        go_wp2_with fail
        refine KR.out.mono ?_
        rintro e9 w9 ⟨rfl, hw⟩
        have hq := hw.symm
        subst hq
        clear hw
        go_wp2
        go_ret2
        exact ⟨rfl, rfl⟩
    | false =>
      obtain ⟨rfl, rfl⟩ := zr rfl
      clear zr kr
      go_enter Try.func39, Try.ntmps39
      go_wp2
      go_ret2
      exact ⟨rfl, rfl⟩

theorem hgt_any (ao : Option Addr) (n c B : Nat) (L : List Rw) (w : World) (hn : n ≤ 1048576) (hL : Hid (L.length = n)) (ho : Hid (w.ownsRow B 53 10 (.slice ao n c) n (rcells L))) :
    ∀ (t : Tr) (m : Nat) (rest : List Rw), t.has = true → L.drop m = rowsT t ++ rest → Calls Try.prog 39 #[.slice ao n c, .int .i64 (m : Int)] w fun e w' => e = .returned (.tuple #[.int .i64 (t.ht : Int), .int .i64 (t.size : Int)]) ∧ w' = w
  | (Tr.mk none), _, _, h, _ => by cases h
  | (Tr.mk (some (cc, l, p, r))), m, rest, _, hd => by
    have hd1 : L.drop m = rowOf cc l p r :: (rowsT l ++ (rowsT r ++ rest)) := by rw [hd]; simp [rowsT]
    have hlen := hL.out
    have hsz : L.length - m = 1 + l.size + r.size + rest.length := by
      have h1 := congrArg List.length hd1
      simp only [List.length_drop, List.length_cons, List.length_append, rowsT_length] at h1
      omega
    have hmem : L[m]? = some (rowOf cc l p r) := by
      have h1 := congrArg (fun X => X[0]?) hd1
      simpa using h1
    have hd2 : L.drop (m + 1) = rowsT l ++ (rowsT r ++ rest) := by
      have h1 := congrArg (List.drop 1) hd1
      rw [List.drop_drop] at h1
      simpa using h1
    have hd3 : L.drop (m + 1 + l.size) = rowsT r ++ rest := by
      have h1 := congrArg (List.drop l.size) hd2
      rw [List.drop_drop] at h1
      rw [h1]
      exact List.drop_left' (rowsT_length l)
    have hhl := ht_size l
    have hhr := ht_size r
    have K := height_node ao n c B m L (rowOf cc l p r) l.ht l.size r.ht r.size w hn hL ho hmem
      (fun h => ⟨by have := size_has (t := l) h; omega, by have h1 := hgt_any ao n c B L w hn hL ho l (m + 1) (rowsT r ++ rest) h hd2; rwa [show ((m + 1 : Nat) : Int) = (m : Int) + 1 from by omega] at h1⟩)
      (fun h => ⟨by have := size_has (t := r) h; omega, by have h1 := hgt_any ao n c B L w hn hL ho r (m + 1 + l.size) rest h hd3; rwa [show ((m + 1 + l.size : Nat) : Int) = (m : Int) + (1 + (l.size : Int)) from by omega] at h1⟩)
      (fun h => ⟨(size_none (t := l) h).2, (size_none (t := l) h).1⟩) (fun h => ⟨(size_none (t := r) h).2, (size_none (t := r) h).1⟩) (by omega) (by omega) (by omega) (by omega)
    have e1 : (Tr.mk (some (cc, l, p, r))).ht = max l.ht r.ht + 1 := by simp only [Tr.ht]; omega
    have e2 : (Tr.mk (some (cc, l, p, r))).size = 1 + l.size + r.size := by simp only [Tr.size]; omega
    rw [e1, e2]
    exact K
end Go.Proofs.Ytpifjghhlcjedaa

/- quoinlaw04.starts and line: the line starts of a text, the line of a place. -/
namespace Go.Proofs.Ytpifjghhlcjedaa
open Go.RowKit

/-- byte number k, 0 beyond the end -/
def b8 (T : List UInt8) (k : Nat) : UInt8 := T.getD k 0
/-- the line starts among the first k places -/
def sts (T : List UInt8) : Nat → List Nat
  | 0 => [0]
  | k + 1 => if ((b8 T k).toNat : Int) == 10 then sts T k ++ [k + 1] else sts T k
theorem ten_eq (b : UInt8) : (((b.toNat : Int) == 10) = true) ↔ (b == 10) = true := by
  simp only [beq_iff_eq]
  constructor
  · intro h
    have h1 : b.toNat = 10 := by omega
    exact UInt8.toNat_inj.1 (by rw [h1]; rfl)
  · rintro rfl; rfl
theorem nl_succ (T : List UInt8) (k : Nat) (h : k < T.length) : Ab.nl (T.take (k + 1)) = Ab.nl (T.take k) + if ((b8 T k).toNat : Int) == 10 then 1 else 0 := by
  unfold Ab.nl
  rw [List.take_succ_eq_append_getElem h, List.countP_append]
  have e : b8 T k = T[k] := by simp [b8, List.getD, h]
  rw [e]
  by_cases hb : ((T[k].toNat : Int) == 10) = true
  · rw [if_pos hb, List.countP_cons, List.countP_nil, if_pos ((ten_eq _).1 hb)]
  · rw [if_neg hb, List.countP_cons, List.countP_nil, if_neg (fun h => hb ((ten_eq _).2 h))]
theorem sts_len (T : List UInt8) : ∀ k, k ≤ T.length → (sts T k).length = Ab.nl (T.take k) + 1
  | 0, _ => rfl
  | k + 1, h => by
    have ih := sts_len T k (by omega)
    rw [nl_succ T k (by omega)]
    unfold sts
    split
    · rw [List.length_append, ih]; rfl
    · rw [ih]
theorem nl_up (T : List UInt8) {i j : Nat} (h : i ≤ j) : Ab.nl (T.take i) ≤ Ab.nl (T.take j) := by
  have e : T.take j = T.take i ++ (T.drop i).take (j - i) := by rw [← List.take_add]; congr 1; omega
  unfold Ab.nl
  rw [e, List.countP_append]; omega
/-- where a line begins that is behind a line end -/
theorem sts_at (T : List UInt8) (q : Nat) (hq : q < T.length) (h10 : (((b8 T q).toNat : Int) == 10) = true) : ∀ k, q < k → k ≤ T.length → (sts T k)[Ab.nl (T.take q) + 1]? = some (q + 1)
  | 0, h, _ => by omega
  | k + 1, h, hk => by
    have hl := sts_len T k (by omega)
    unfold sts
    by_cases e : q = k
    · subst e
      rw [if_pos h10, List.getElem?_append_right (by omega), hl, Nat.sub_self]; rfl
    · have ih := sts_at T q hq h10 k (by omega) (by omega)
      have h2 := nl_succ T q hq
      rw [if_pos h10] at h2
      have h3 := nl_up T (i := q + 1) (j := k) (by omega)
      split
      · rw [List.getElem?_append_left (by omega)]; exact ih
      · exact ih
theorem sts_zero (T : List UInt8) : ∀ k, (sts T k)[0]? = some 0
  | 0 => rfl
  | k + 1 => by
    unfold sts
    split
    · rw [List.getElem?_append_left (by cases h : sts T k with | nil => have := sts_zero T k; rw [h] at this; cases this | cons x y => simp)]; exact sts_zero T k
    · exact sts_zero T k
/-- numbers as cells -/
def ivs (Z : List Nat) : List Value := Z.map fun (k : Nat) => Value.int .i64 (k : Int)
theorem ivs_length (Z : List Nat) : (ivs Z).length = Z.length := by simp [ivs]
theorem ivs_snoc (Z : List Nat) (k : Nat) : ivs (Z ++ [k]) = ivs Z ++ [.int .i64 (k : Int)] := by simp [ivs]
theorem info3 : (Try.prog.info? 3).map (fun i => (i.zero, i.size, i.bytes)) = some (some (.int .i64 0), 1, 8) := by kernel_rfl
/-- bytes that can be read, cell by cell -/
theorem rd_at {W : World} {ao : Option Addr} {c : Nat} {l : List UInt8} (h : Ab.Rd W (.slice ao l.length c) l) (hn : 0 < l.length) : ∃ g o, ao = some ⟨g, o, none⟩ ∧ ∀ j, j < l.length → W.cell? ⟨g, o + j, none⟩ = some (.int .u8 ((b8 l j).toNat : Int)) := by
  rcases h with ⟨_, h0⟩ | ⟨ad, c', h0, hc⟩
  · rw [h0] at hn; simp at hn
  · simp only [Value.slice.injEq] at h0
    obtain ⟨rfl, -, -⟩ := h0
    have cell : ∀ j, j < l.length → W.cell? (ad.add j) = some (.int .u8 ((b8 l j).toNat : Int)) := fun j hj => by
      rw [hc j (.int .u8 ((b8 l j).toNat : Int)) (by simp [Ab.bv, b8, List.getD, hj])]
    obtain ⟨g, o, s⟩ := ad
    have hs : s = none := by simpa [Addr.add] using World.cell?_spot (cell 0 hn)
    subst hs
    exact ⟨g, o, rfl, fun j hj => by have := cell j hj; rwa [Go.WideShapes.add_plain] at this⟩

set_option maxHeartbeats 2000000 in
theorem starts_any (ao : Option Addr) (c : Nat) (l : List UInt8) (w : World) (hz : l.length ≤ 1048576) (hR : Hid (Ab.Rd w (.slice ao l.length c) l)) :
    Calls Try.prog 36 #[.slice ao l.length c] w fun e w' => ∃ v, e = .returned v ∧ w'.ownsRow w.heap.size 3 1 v (sts l l.length).length (ivs (sts l l.length)) ∧ Below w.heap.size w w' := by
  obtain ⟨i3, hi3, hz3, hs3, hb3⟩ := info_parts info3
  have hzI : (l.length : Int) ≤ 1048576 := by omega
  have SL := hid (sts_len l)
  have NL := hid (fun k => (show Ab.nl (l.take k) ≤ k from Nat.le_trans (Ab.nl_le _) (List.length_take_le _ _)))
  go_enter Try.func36, Try.ntmps36
  go_wp2_with fail
  go_loopw [3, 9] (fun u v wr => ∃ k : Nat, v = .int .i64 k ∧ k ≤ l.length ∧ wr.ownsRow w.heap.size 3 1 u (sts l k).length (ivs (sts l k)) ∧ Below w.heap.size w wr) (fun _ v _ => l.length - (intOf v).toNat)
  case atStart => exact ⟨0, rfl, Nat.zero_le _, World.ownsRow_lit w #[.int .i64 0] 1 (Nat.le_refl _) (by decide) rfl, bAlloc (Below.refl _ _) _⟩
  case round =>
    obtain ⟨k, rfl, hk, hO, hB⟩ := hrel
    have HO := hid hO
    have HB := hid hB
    clear hO hB
    have hk0 : (0 : Int) ≤ (k : Int) := by omega
    by_cases hlt : k < l.length
    · have hk1 : (k : Int) < (l.length : Int) := by omega
      obtain ⟨g, o, rfl, hc⟩ := rd_at (hR.out.keep HB.out) (by omega)
      have c1 := hc k hlt
      clear hc
      obtain ⟨ax, cx, hu⟩ := own_shape HO.out
      subst hu
      have hll : Hid ((sts l k).length ≤ k + 1) := (by unfold Hid; rw [SL.out k hk]; have := NL.out k; omega)
      cases hb : (((b8 l k).toNat : Int) == 10) with
      | true =>
        have HC := hid (show sts l (k + 1) = sts l k ++ [k + 1] by conv => { lhs; unfold sts }; rw [if_pos hb])
        go_wp2_with (at_builtin; refine Rk.append_srv rfl (.tmp 16) (.tmp 19) 78 rfl w.heap.size 3 i3 (.int .i64 0) 1 8 Try.underlying78 hi3 hz3 hs3 hb3 rfl (by decide) (.slice ax (sts l k).length cx) (sts l k).length (ivs (sts l k)) rfl (HO.out.alloc _) (.slice (some ⟨wr.heap.size, 0, none⟩) 1 1) 1 [.int .i64 ((k : Int) + 1)] rfl (.inr ⟨⟨wr.heap.size, 0, none⟩, 1, rfl, fun j t hj => lit_cells wr _ 3 j t hj⟩) rfl ?r1 ?r2 ?r3 ?r4 ?_)
        case r1 => intro u hu; simp at hu; subst hu; rfl
        case r2 => have := hll.out; unfold maxLen; omega
        case r3 => have := hll.out; omega
        case r4 => have := HB.out.size; simp; omega
        intro v2 w3 hown2 hgrow2 hfr2
        have B3 : Hid (Below w.heap.size w w3) := (bAlloc HB.out _).grown hgrow2 (by have := HB.out.size; simp; omega) (fun k hk => (HO.out.lt k hk).1)
        have O3 : Hid (w3.ownsRow w.heap.size 3 1 v2 (sts l (k + 1)).length (ivs (sts l (k + 1)))) := by
          unfold Hid
          rw [HC.out, ivs_snoc, List.length_append]
          exact hown2
        clear hown2 hgrow2 hfr2 HO HB
        go_wp2
        go_roundw
        case rel => exact ⟨k + 1, by go_num, by omega, O3.out, B3.out⟩
        case measure => simp [intOf]; omega
      | false =>
        have HC := hid (show sts l (k + 1) = sts l k by conv => { lhs; unfold sts }; rw [if_neg (by rw [hb]; simp)])
        go_wp2
        go_roundw
        case rel => exact ⟨k + 1, by go_num, by omega, by rw [HC.out]; exact HO.out, HB.out⟩
        case measure => simp [intOf]; omega
    · have hk1 : ¬ ((k : Int) < (l.length : Int)) := by omega
      obtain rfl : k = l.length := by omega
      go_wp2
      go_ret
      exact ⟨_, rfl, HO.out, HB.out⟩

set_option maxHeartbeats 2000000 in
theorem line_any (ao : Option Addr) (c x : Nat) (l : List UInt8) (w : World) (hz : l.length ≤ 1048576) (hc0 : l.length ≤ c) (hx : x ≤ l.length) (hR : Hid (Ab.Rd w (.slice ao l.length c) l)) :
    Calls Try.prog 71 #[.slice ao l.length c, .int .i64 (x : Int)] w fun e w' => e = .returned (.int .i64 (Ab.nl (l.take x) : Int)) ∧ w' = w := by
  have hzI : (l.length : Int) ≤ 1048576 := by omega
  have hx0 : (0 : Int) ≤ (x : Int) := by omega
  have hx1 : (x : Int) ≤ (c : Int) := by omega
  have hx2 : (x : Int) ≤ 1048576 := by omega
  have NL := hid (fun k => (show Ab.nl (l.take k) ≤ k from Nat.le_trans (Ab.nl_le _) (List.length_take_le _ _)))
  go_enter Try.func71, Try.ntmps71
  go_wp2_with fail
  all_goals
    go_loopw [5, 12] (fun u v wr => ∃ k : Nat, v = .int .i64 k ∧ u = .int .i64 (Ab.nl (l.take k) : Int) ∧ k ≤ x ∧ wr = w) (fun _ v _ => x - (intOf v).toNat)
    case atStart => exact ⟨0, rfl, rfl, Nat.zero_le _, rfl⟩
    case round =>
      obtain ⟨k, rfl, rfl, hk, hw⟩ := hrel
      subst hw
      have hk0 : (0 : Int) ≤ (k : Int) := by omega
      have hnk : (Ab.nl (l.take k) : Int) ≤ 1048576 := by have := NL.out k; omega
      have hnk0 : (0 : Int) ≤ (Ab.nl (l.take k) : Int) := by omega
      by_cases hlt : k < x
      · have hk1 : (k : Int) < (x : Int) := by omega
        obtain ⟨g, o, rfl, hc⟩ := rd_at hR.out (by omega)
        have c1 := hc k (by omega)
        clear hc
        have HS := hid (nl_succ l k (by omega))
        cases hb : (((b8 l k).toNat : Int) == 10) with
        | true =>
          rw [hb, if_pos rfl] at HS
          go_wp2
          go_roundw
          case rel => exact ⟨k + 1, by go_num, by rw [HS.out]; go_num, by omega, by trivial⟩
          case measure => simp [intOf]; omega
        | false =>
          rw [hb, if_neg (by simp)] at HS
          go_wp2
          go_roundw
          case rel => exact ⟨k + 1, by go_num, by rw [HS.out]; rfl, by omega, by trivial⟩
          case measure => simp [intOf]; omega
      · have hk1 : ¬ ((k : Int) < (x : Int)) := by omega
        obtain rfl : k = x := by omega
        go_wp2
        go_ret
        exact ⟨rfl, rfl⟩
end Go.Proofs.Ytpifjghhlcjedaa

