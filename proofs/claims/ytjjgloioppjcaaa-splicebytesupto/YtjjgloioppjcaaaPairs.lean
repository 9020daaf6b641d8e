/- Lists of pairs in memory; the contract of the laws' sameBytes. -/
import Derived.Test.YtjjgloioppjcaaaSpell
import Derived.ChangeKeysEq
namespace Go.Proofs.Ytjjgloioppjcaaa
open Go.RowKit

/-- A pair's cells. -/
def pcs (q : Int × Int) : List Value := [.int .i64 q.1, .int .i64 q.2]
def pcells (M : List (Int × Int)) : List Value := M.flatMap pcs
theorem pcells_length (M : List (Int × Int)) : (pcells M).length = M.length * 2 := by
  induction M with
  | nil => rfl
  | cons p M ih => simp only [pcells, List.flatMap_cons, List.length_append, List.length_cons] at *; rw [ih]; simp [pcs]; omega
theorem pcells_append (L M : List (Int × Int)) : pcells (L ++ M) = pcells L ++ pcells M := by simp [pcells]
theorem pcells_at {M : List (Int × Int)} {j : Nat} {q : Int × Int} (h : M[j]? = some q) (i : Nat) (hi : i < 2) : (pcells M)[j * 2 + i]? = (pcs q)[i]? := by
  induction M generalizing j with
  | nil => simp at h
  | cons r M ih =>
    have e : pcells (r :: M) = pcs r ++ pcells M := by simp [pcells]
    rw [e]
    cases j with
    | zero =>
      simp at h; subst h
      rw [Nat.zero_mul, Nat.zero_add, List.getElem?_append_left (by simp [pcs]; omega)]
    | succ j =>
      rw [List.getElem?_cons_succ] at h
      rw [List.getElem?_append_right (by simp [pcs]; omega)]
      rw [← ih h]
      congr 1
      simp [pcs]; omega
def RowP (W : World) (b off : Nat) (M : List (Int × Int)) : Prop :=
  ∀ j q, M[j]? = some q → W.cell? ⟨b, off + j * 2, none⟩ = some (.int .i64 q.1) ∧ W.cell? ⟨b, off + j * 2 + 1, none⟩ = some (.int .i64 q.2)
/-- A list value whose pairs are M. -/
def Rdp (W : World) (v : Value) (M : List (Int × Int)) : Prop := ∃ ao n c, v = .slice ao n c ∧ n = M.length ∧ n ≤ c ∧ (M = [] ∨ ∃ b off, ao = some ⟨b, off, none⟩ ∧ RowP W b off M)
theorem RowP.keep {w w' : World} {b off : Nat} {M : List (Int × Int)} (h : RowP w b off M) (hb : Below w.heap.size w w') : RowP w' b off M := by
  intro j p hj
  obtain ⟨h0, h1⟩ := h j p hj
  have lt := cell_lt h0
  refine ⟨?_, ?_⟩ <;> (rw [hb.cell lt]; assumption)
theorem Rdp.keep {w w' : World} {v : Value} {M : List (Int × Int)} (h : Rdp w v M) (hb : Below w.heap.size w w') : Rdp w' v M := by
  obtain ⟨ao, n, c, h1, h2, h3, h4⟩ := h
  refine ⟨ao, n, c, h1, h2, h3, ?_⟩
  rcases h4 with h4 | ⟨b, off, h5, h6⟩
  · exact .inl h4
  · exact .inr ⟨b, off, h5, h6.keep hb⟩
theorem rdp_row {w : World} {ao : Option Addr} {n c : Nat} {M : List (Int × Int)} (h : Rdp w (.slice ao n c) M) : M = [] ∨ ∃ b off, ao = some ⟨b, off, none⟩ ∧ RowP w b off M := by
  obtain ⟨ao', n', c', e1, _, _, h4⟩ := h
  simp at e1; rw [e1.1]; exact h4
theorem rdp_shape {w : World} {v : Value} {M : List (Int × Int)} (h : Rdp w v M) : ∃ ao c, v = .slice ao M.length c := by
  obtain ⟨ao, n, c, rfl, rfl, _⟩ := h
  exact ⟨ao, c, rfl⟩
theorem own_rdp {w : World} {base e n : Nat} {v : Value} {M : List (Int × Int)} (h : w.ownsRow base e 2 v n (pcells M)) : Rdp w v M := by
  have hl : n = M.length := by have := h.1; rw [pcells_length] at this; omega
  rcases h.2 with ⟨rfl, rfl⟩ | ⟨g, cap, cur, rfl, hb, hg, h1, h2, h3, h4⟩
  · exact ⟨_, _, _, rfl, hl, Nat.le_refl _, .inl (List.eq_nil_of_length_eq_zero hl.symm)⟩
  · refine ⟨_, _, _, rfl, hl, h1, .inr ⟨g, 0, rfl, fun j p hj => ?_⟩⟩
    have hlt := (List.getElem?_eq_some_iff.1 hj).1
    have c := fun i (hi : i < 2) => (h.cellAt (j * 2 + i) (by omega)).trans (pcells_at hj i hi)
    rw [Nat.zero_add]
    exact ⟨by simpa [pcs] using c 0 (by omega), by simpa [pcs] using c 1 (by omega)⟩

theorem plain3 : Try.prog.plainKey 3 = true := by kernel_rfl
theorem cellsOf3 : Try.prog.cellsOf 3 = 1 := by kernel_rfl
theorem info3 : (Try.prog.info? 3).map (fun i => (i.zero, i.size, i.bytes)) = some (some (.int .i64 0), 1, 8) := by kernel_rfl
theorem eq55 (s o : Int) (W : World) : (Op.equalIn 10000 55 (.agg #[.int .i64 s, .int .i64 o]) (.agg #[.int .i64 s, .int .i64 o])).run Try.prog W = .ok true W := by
  obtain ⟨i, hi, -⟩ := info_parts info3
  rw [run_equalIn_array W 9999 _ _ Try.underlying55 hi, cellsOf3]
  have e2 : List.range 2 = [0, 1] := by decide
  have p0 := run_part_plain (P := Try.prog) W (e := 3) plain3 (xs := #[Value.int .i64 s, .int .i64 o]) (off := 0) (v := .int .i64 s) rfl
  have p1 := run_part_plain (P := Try.prog) W (e := 3) plain3 (xs := #[Value.int .i64 s, .int .i64 o]) (off := 1) (v := .int .i64 o) rfl
  have q0 := run_equalIn_int (P := Try.prog) W 9998 3 .i64 .i64 s s Try.underlying3
  have q1 := run_equalIn_int (P := Try.prog) W 9998 3 .i64 .i64 o o Try.underlying3
  rw [e2]
  simp [Op.eqItems, p0, p1, q0, q1]

set_option maxRecDepth 100000 in
set_option maxHeartbeats 2000000 in
theorem sameP_any (a1 : Option Addr) (c1 : Nat) (a2 : Option Addr) (c2 : Nat) (M : List (Int × Int)) (w : World) (hz : M.length ≤ 10000) (h1 : Hid (Rdp w (.slice a1 M.length c1) M)) (h2 : Hid (Rdp w (.slice a2 M.length c2) M)) :
    Calls Try.prog 25 #[.slice a1 M.length c1, .slice a2 M.length c2] w fun e w' => e = .returned (.bool true) ∧ Below w.heap.size w w' := by
  have H1 := Hid.mk' (rdp_row h1.out)
  have H2 := Hid.mk' (rdp_row h2.out)
  clear h1 h2
  go_enter Try.func25, Try.ntmps25
  go_wp2
  go_loopw [5] (fun i wq => ∃ m : Nat, m ≤ M.length ∧ i = .int .i64 m ∧ Below w.heap.size w wq) (fun i _ => M.length - (intOf i).toNat)
  case atStart => exact ⟨0, Nat.zero_le _, rfl, Below.refl _ _⟩
  case round =>
    obtain ⟨m, hm, rfl, hb⟩ := hrel
    have HB := Hid.mk' hb
    clear hb
    by_cases hmt : m < M.length
    · rcases H1.out with hn | ⟨b1, off1, rfl, hr1⟩
      · rw [hn] at hmt; simp at hmt
      rcases H2.out with hn | ⟨b2, off2, rfl, hr2⟩
      · rw [hn] at hmt; simp at hmt
      rcases hp : M[m]? with _ | ⟨s, o⟩
      · have := List.getElem?_eq_none_iff.1 hp; omega
      obtain ⟨r0, r1⟩ := (hr1.keep HB.out) m _ hp
      obtain ⟨q0, q1⟩ := (hr2.keep HB.out) m _ hp
      dsimp only at r0 r1 q0 q1
      have hm0 : (0 : Int) ≤ (m : Int) := by omega
      have hml : (m : Int) < (M.length : Int) := by omega
      have heq := eq55 s o
      clear hr1 hr2 hp H1 H2
      go_wp2
      go_region
      go_wp2
      go_roundw
      case rel => exact ⟨m + 1, by omega, by go_num, HB.out.drew⟩
      case measure => simp [intOf]; omega
    · obtain rfl : m = M.length := by omega
      go_wp2
      go_ret
      exact ⟨rfl, HB.out⟩
theorem sameP_rdp {w : World} {v v' : Value} {M : List (Int × Int)} (hz : M.length ≤ 10000) (h1 : Rdp w v M) (h2 : Rdp w v' M) :
    Calls Try.prog 25 #[v, v'] w fun e w' => e = .returned (.bool true) ∧ Below w.heap.size w w' := by
  obtain ⟨a1, c1, rfl⟩ := rdp_shape h1
  obtain ⟨a2, c2, rfl⟩ := rdp_shape h2
  exact sameP_any a1 c1 a2 c2 M w hz h1 h2
theorem info55 : (Try.prog.info? 55).map (fun i => (i.zero, i.size, i.bytes)) = some (some (.agg #[.int .i64 0, .int .i64 0]), 2, 16) := by kernel_rfl
end Go.Proofs.Ytjjgloioppjcaaa
