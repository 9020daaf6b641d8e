/- The contract of quoinlaw01.told, for the questions that write nothing. -/
import Derived.Test.YtfjfflkdcmpgnaaRefRest
namespace Go.Proofs.Ytfjfflkdcmpgnaa
open Go.RowKit

/-- Block b of W holds the cells cs, none of them frozen. -/
def RowAt (W : World) (b : Nat) (cs : Array Value) (t : Nat) : Prop := W.heap[b]? = some (.cells cs t (0, 0))
theorem RowAt.new (w : World) (cs : Array Value) (t : Nat) : RowAt (w.alloc (.cells cs t)) w.heap.size cs t := heap_alloc_new w _
theorem RowAt.lt {W : World} {b : Nat} {cs : Array Value} {t : Nat} (h : RowAt W b cs t) : b < W.heap.size := (Array.getElem?_eq_some_iff.1 h).1
theorem RowAt.alloc {W : World} {b : Nat} {cs : Array Value} {t : Nat} (h : RowAt W b cs t) (x : Obj) : RowAt (W.alloc x) b cs t := by
  unfold RowAt; rw [Below.heap_alloc W x b h.lt]; exact h
theorem RowAt.keep {W W' : World} {b : Nat} {cs : Array Value} {t : Nat} (h : RowAt W b cs t) (hb : Below W.heap.size W W') : RowAt W' b cs t := by
  unfold RowAt; rw [hb.block b h.lt]; exact h
theorem RowAt.cell {W : World} {b : Nat} {cs : Array Value} {t : Nat} (h : RowAt W b cs t) (j : Nat) : W.cell? ⟨b, j, none⟩ = cs[j]? := cell_of_row W b j cs t (0, 0) h
theorem RowAt.fz {W : World} {b : Nat} {cs : Array Value} {t : Nat} (h : RowAt W b cs t) (j : Nat) : W.frozen? ⟨b, j, none⟩ = false := row_frozen W b j cs t h

theorem which_le (s : Int) (O A : List UInt8) (n : Nat) (hO : O.length ≤ n) (hA : A.length ≤ n) : (which s O A).length ≤ n := by
  unfold which; split
  · exact hO
  · split
    · exact hA
    · simp

set_option maxRecDepth 100000 in
set_option maxHeartbeats 800000 in
theorem told2 (p : Option Addr) (a0 a1 : Option Addr) (c0 c1 : Nat) (vP : Value) (pl : Value) (O A : List UInt8) (base : Nat) (s o l i : Int) (w : World) (h1 : -9223372036854775808 ≤ l) (h2 : l ≤ 9223372036854775807) (h3 : -9223372036854775808 ≤ o) (h4 : o ≤ 9223372036854775807) (bO : O.length ≤ 16777216) (bA : A.length ≤ 16777216)
    (hB : Hid (Bf w base p O A)) (hO : Hid (w.ownsRow base 5 1 (.slice a0 O.length c0) O.length (bv O))) (hA : Hid (w.ownsRow base 5 1 (.slice a1 A.length c1) A.length (bv A))) :
    Calls Try.prog 12 #[.pointer p, .agg #[.slice a0 O.length c0, .slice a1 A.length c1], .agg #[.int .i64 2, vP, .int .i64 s, .int .i64 o, .int .i64 l, .int .i64 i], pl] w fun e w' => e = .returned (.bool true) ∧ Below w.heap.size w w' := by
  have bW := which_le s O A 16777216 bO bA
  go_enter Try.func12, Try.ntmps12
  go_wp2_with fail
  refine (byte_all p s o l i O A base _ h1 h2 ((hB.out.alloc _).alloc _)).mono ?_
  rintro e w1 ⟨rfl, hb⟩
  have K1 := ((RowAt.new w #[.slice a0 O.length c0, .slice a1 A.length c1] 30).alloc (.cells #[.int .i64 2, vP, .int .i64 s, .int .i64 o, .int .i64 l, .int .i64 i] 35)).keep hb
  have S1 := (by simpa using RowAt.new (w.alloc (.cells #[.slice a0 O.length c0, .slice a1 A.length c1] 30)) #[.int .i64 2, vP, .int .i64 s, .int .i64 o, .int .i64 l, .int .i64 i] 35 : RowAt ((w.alloc (.cells #[.slice a0 O.length c0, .slice a1 A.length c1] 30)).alloc (.cells #[.int .i64 2, vP, .int .i64 s, .int .i64 o, .int .i64 l, .int .i64 i] 35)) (w.heap.size + 1) _ _).keep hb
  have O1 : Hid (w1.ownsRow base 5 1 (.slice a0 O.length c0) O.length (bv O)) := own_keep ((hO.out.alloc _).alloc _) hb
  have A1 : Hid (w1.ownsRow base 5 1 (.slice a1 A.length c1) A.length (bv A)) := own_keep ((hA.out.alloc _).alloc _) hb
  have L1 : Below w.heap.size w w1 := (bAlloc (bAlloc (Below.refl _ _) _) _).trans (hb.mono (by simp; omega))
  clear hb
  obtain ⟨kc0, kc1⟩ : w1.cell? ⟨w.heap.size, 0, none⟩ = some (.slice a0 O.length c0) ∧ w1.cell? ⟨w.heap.size, 1, none⟩ = some (.slice a1 A.length c1) := ⟨by rw [K1.cell]; rfl, by rw [K1.cell]; rfl⟩
  obtain ⟨sc2, sc3, sc4, sc5⟩ : w1.cell? ⟨w.heap.size + 1, 2, none⟩ = some (.int .i64 s) ∧ w1.cell? ⟨w.heap.size + 1, 3, none⟩ = some (.int .i64 o) ∧ w1.cell? ⟨w.heap.size + 1, 4, none⟩ = some (.int .i64 l) ∧ w1.cell? ⟨w.heap.size + 1, 5, none⟩ = some (.int .i64 i) := ⟨by rw [S1.cell]; rfl, by rw [S1.cell]; rfl, by rw [S1.cell]; rfl, by rw [S1.cell]; rfl⟩
  clear K1 S1
  go_wp2_with fail
  refine (refByte_all a0 a1 c0 c1 O A base s o l i _ h3 h4 (by omega) O1 A1).mono ?_
  rintro e w2 ⟨rfl, hb⟩
  have L2 := L1.trans (hb.mono L1.size)
  clear hb
  go_wp2
  go_ret
  exact ⟨rfl, L2⟩

set_option maxRecDepth 100000 in
set_option maxHeartbeats 800000 in
theorem told3 (p : Option Addr) (a0 a1 : Option Addr) (c0 c1 : Nat) (vP : Value) (pl : Value) (O A : List UInt8) (base : Nat) (s o l i : Int) (w : World) (h1 : -9223372036854775808 ≤ l) (h2 : l ≤ 9223372036854775807) (h3 : -9223372036854775808 ≤ o) (h4 : o ≤ 9223372036854775807) (bO : O.length ≤ 16777216) (bA : A.length ≤ 16777216)
    (hB : Hid (Bf w base p O A)) (hO : Hid (w.ownsRow base 5 1 (.slice a0 O.length c0) O.length (bv O))) (hA : Hid (w.ownsRow base 5 1 (.slice a1 A.length c1) A.length (bv A))) :
    Calls Try.prog 12 #[.pointer p, .agg #[.slice a0 O.length c0, .slice a1 A.length c1], .agg #[.int .i64 3, vP, .int .i64 s, .int .i64 o, .int .i64 l, .int .i64 i], pl] w fun e w' => e = .returned (.bool true) ∧ Below w.heap.size w w' := by
  have bW := which_le s O A 16777216 bO bA
  go_enter Try.func12, Try.ntmps12
  go_wp2_with fail
  refine (lines_all p s o l O A base _ h1 h2 ((hB.out.alloc _).alloc _)).mono ?_
  rintro e w1 ⟨rfl, hb⟩
  have K1 := ((RowAt.new w #[.slice a0 O.length c0, .slice a1 A.length c1] 30).alloc (.cells #[.int .i64 3, vP, .int .i64 s, .int .i64 o, .int .i64 l, .int .i64 i] 35)).keep hb
  have S1 := (by simpa using RowAt.new (w.alloc (.cells #[.slice a0 O.length c0, .slice a1 A.length c1] 30)) #[.int .i64 3, vP, .int .i64 s, .int .i64 o, .int .i64 l, .int .i64 i] 35 : RowAt ((w.alloc (.cells #[.slice a0 O.length c0, .slice a1 A.length c1] 30)).alloc (.cells #[.int .i64 3, vP, .int .i64 s, .int .i64 o, .int .i64 l, .int .i64 i] 35)) (w.heap.size + 1) _ _).keep hb
  have O1 : Hid (w1.ownsRow base 5 1 (.slice a0 O.length c0) O.length (bv O)) := own_keep ((hO.out.alloc _).alloc _) hb
  have A1 : Hid (w1.ownsRow base 5 1 (.slice a1 A.length c1) A.length (bv A)) := own_keep ((hA.out.alloc _).alloc _) hb
  have L1 : Below w.heap.size w w1 := (bAlloc (bAlloc (Below.refl _ _) _) _).trans (hb.mono (by simp; omega))
  clear hb
  obtain ⟨kc0, kc1⟩ : w1.cell? ⟨w.heap.size, 0, none⟩ = some (.slice a0 O.length c0) ∧ w1.cell? ⟨w.heap.size, 1, none⟩ = some (.slice a1 A.length c1) := ⟨by rw [K1.cell]; rfl, by rw [K1.cell]; rfl⟩
  obtain ⟨sc2, sc3, sc4, sc5⟩ : w1.cell? ⟨w.heap.size + 1, 2, none⟩ = some (.int .i64 s) ∧ w1.cell? ⟨w.heap.size + 1, 3, none⟩ = some (.int .i64 o) ∧ w1.cell? ⟨w.heap.size + 1, 4, none⟩ = some (.int .i64 l) ∧ w1.cell? ⟨w.heap.size + 1, 5, none⟩ = some (.int .i64 i) := ⟨by rw [S1.cell]; rfl, by rw [S1.cell]; rfl, by rw [S1.cell]; rfl, by rw [S1.cell]; rfl⟩
  clear K1 S1
  go_wp2_with fail
  refine (refLines_all a0 a1 c0 c1 O A base s o l _ h3 h4 (by omega) O1 A1).mono ?_
  rintro e w2 ⟨rfl, hb⟩
  have L2 := L1.trans (hb.mono L1.size)
  clear hb
  go_wp2
  go_ret
  exact ⟨rfl, L2⟩

set_option maxRecDepth 100000 in
set_option maxHeartbeats 800000 in
theorem told4 (p : Option Addr) (a0 a1 : Option Addr) (c0 c1 : Nat) (vP : Value) (pl : Value) (O A : List UInt8) (base : Nat) (s o l i : Int) (w : World) (h1 : -9223372036854775808 ≤ l) (h2 : l ≤ 9223372036854775807) (h3 : -9223372036854775808 ≤ o) (h4 : o ≤ 9223372036854775807) (h5 : i ≤ 9223372036854775807) (bO : O.length ≤ 16777216) (bA : A.length ≤ 16777216)
    (hB : Hid (Bf w base p O A)) (hO : Hid (w.ownsRow base 5 1 (.slice a0 O.length c0) O.length (bv O))) (hA : Hid (w.ownsRow base 5 1 (.slice a1 A.length c1) A.length (bv A))) :
    Calls Try.prog 12 #[.pointer p, .agg #[.slice a0 O.length c0, .slice a1 A.length c1], .agg #[.int .i64 4, vP, .int .i64 s, .int .i64 o, .int .i64 l, .int .i64 i], pl] w fun e w' => e = .returned (.bool true) ∧ Below w.heap.size w w' := by
  have bW := which_le s O A 16777216 bO bA
  go_enter Try.func12, Try.ntmps12
  go_wp2_with fail
  refine (lineAt_all p s o l i O A base _ h1 h2 h5 ((hB.out.alloc _).alloc _)).mono ?_
  rintro e w1 ⟨rfl, hb⟩
  have K1 := ((RowAt.new w #[.slice a0 O.length c0, .slice a1 A.length c1] 30).alloc (.cells #[.int .i64 4, vP, .int .i64 s, .int .i64 o, .int .i64 l, .int .i64 i] 35)).keep hb
  have S1 := (by simpa using RowAt.new (w.alloc (.cells #[.slice a0 O.length c0, .slice a1 A.length c1] 30)) #[.int .i64 4, vP, .int .i64 s, .int .i64 o, .int .i64 l, .int .i64 i] 35 : RowAt ((w.alloc (.cells #[.slice a0 O.length c0, .slice a1 A.length c1] 30)).alloc (.cells #[.int .i64 4, vP, .int .i64 s, .int .i64 o, .int .i64 l, .int .i64 i] 35)) (w.heap.size + 1) _ _).keep hb
  have O1 : Hid (w1.ownsRow base 5 1 (.slice a0 O.length c0) O.length (bv O)) := own_keep ((hO.out.alloc _).alloc _) hb
  have A1 : Hid (w1.ownsRow base 5 1 (.slice a1 A.length c1) A.length (bv A)) := own_keep ((hA.out.alloc _).alloc _) hb
  have L1 : Below w.heap.size w w1 := (bAlloc (bAlloc (Below.refl _ _) _) _).trans (hb.mono (by simp; omega))
  clear hb
  obtain ⟨kc0, kc1⟩ : w1.cell? ⟨w.heap.size, 0, none⟩ = some (.slice a0 O.length c0) ∧ w1.cell? ⟨w.heap.size, 1, none⟩ = some (.slice a1 A.length c1) := ⟨by rw [K1.cell]; rfl, by rw [K1.cell]; rfl⟩
  obtain ⟨sc2, sc3, sc4, sc5⟩ : w1.cell? ⟨w.heap.size + 1, 2, none⟩ = some (.int .i64 s) ∧ w1.cell? ⟨w.heap.size + 1, 3, none⟩ = some (.int .i64 o) ∧ w1.cell? ⟨w.heap.size + 1, 4, none⟩ = some (.int .i64 l) ∧ w1.cell? ⟨w.heap.size + 1, 5, none⟩ = some (.int .i64 i) := ⟨by rw [S1.cell]; rfl, by rw [S1.cell]; rfl, by rw [S1.cell]; rfl, by rw [S1.cell]; rfl⟩
  clear K1 S1
  go_wp2_with fail
  refine (refLineAt_all a0 a1 c0 c1 O A base s o l i _ h3 h4 (by omega) O1 A1).mono ?_
  rintro e w2 ⟨rfl, hb⟩
  have L2 := L1.trans (hb.mono L1.size)
  clear hb
  go_wp2
  go_ret
  exact ⟨rfl, L2⟩

theorem keep5 {W W' : World} (hb : Below W.heap.size W W') {a1 a2 a3 a4 a5 : Addr} {v1 v2 v3 v4 v5 : Value}
    (h : W.cell? a1 = some v1 ∧ W.cell? a2 = some v2 ∧ W.cell? a3 = some v3 ∧ W.cell? a4 = some v4 ∧ W.cell? a5 = some v5) :
    W'.cell? a1 = some v1 ∧ W'.cell? a2 = some v2 ∧ W'.cell? a3 = some v3 ∧ W'.cell? a4 = some v4 ∧ W'.cell? a5 = some v5 :=
  ⟨cell_later' hb h.1, cell_later' hb h.2.1, cell_later' hb h.2.2.1, cell_later' hb h.2.2.2.1, cell_later' hb h.2.2.2.2⟩

set_option maxRecDepth 100000 in
set_option maxHeartbeats 800000 in
theorem told5 (p : Option Addr) (a0 a1 : Option Addr) (c0 c1 : Nat) (vP : Value) (pl : Value) (O A : List UInt8) (base : Nat) (s o l i : Int) (w : World)
    (hB : Hid (Bf w base p O A)) :
    Calls Try.prog 12 #[.pointer p, .agg #[.slice a0 O.length c0, .slice a1 A.length c1], .agg #[.int .i64 5, vP, .int .i64 s, .int .i64 o, .int .i64 l, .int .i64 i], pl] w fun e w' => e = .returned (.bool true) ∧ Below w.heap.size w w' := by
  by_cases i0 : i = 0
  · subst i0
    have e : which 0 O A = O := by simp [which]
    have hz := size_any p 0 O A base ((w.alloc (.cells #[.slice a0 O.length c0, .slice a1 A.length c1] 30)).alloc (.cells #[.int .i64 5, vP, .int .i64 s, .int .i64 o, .int .i64 l, .int .i64 0] 35)) ((hB.out.alloc _).alloc _)
    rw [e] at hz
    have HZ : Hid (Calls _ _ _ _ _) := hz
    clear hz e
    go_enter Try.func12, Try.ntmps12
    go_wp2_with fail
    refine HZ.out.mono ?_
    rintro e w1 ⟨rfl, rfl⟩
    go_wp2
    go_ret
    exact ⟨rfl, bAlloc (bAlloc (Below.refl _ _) _) _⟩
  · by_cases i1 : i = 1
    · subst i1
      have e : which 1 O A = A := by simp [which]
      have hz := size_any p 1 O A base ((w.alloc (.cells #[.slice a0 O.length c0, .slice a1 A.length c1] 30)).alloc (.cells #[.int .i64 5, vP, .int .i64 s, .int .i64 o, .int .i64 l, .int .i64 1] 35)) ((hB.out.alloc _).alloc _)
      rw [e] at hz
      have HZ : Hid (Calls _ _ _ _ _) := hz
      clear hz e
      go_enter Try.func12, Try.ntmps12
      go_wp2_with fail
      refine HZ.out.mono ?_
      rintro e w1 ⟨rfl, rfl⟩
      go_wp2
      go_ret
      exact ⟨rfl, bAlloc (bAlloc (Below.refl _ _) _) _⟩
    · have e : which i O A = [] := by simp [which, i0, i1]
      have hz := size_any p i O A base ((w.alloc (.cells #[.slice a0 O.length c0, .slice a1 A.length c1] 30)).alloc (.cells #[.int .i64 5, vP, .int .i64 s, .int .i64 o, .int .i64 l, .int .i64 i] 35)) ((hB.out.alloc _).alloc _)
      rw [e] at hz
      have HZ : Hid (Calls _ _ _ _ _) := hz
      have b0 : (i == 0) = false := by simpa using i0
      have b1 : (i == 1) = false := by simpa using i1
      clear hz e
      go_enter Try.func12, Try.ntmps12
      go_wp2_with fail
      refine HZ.out.mono ?_
      rintro e w1 ⟨rfl, rfl⟩
      go_wp2
      go_ret
      exact ⟨rfl, bAlloc (bAlloc (Below.refl _ _) _) _⟩

set_option maxRecDepth 100000 in
set_option maxHeartbeats 1000000 in
theorem told6 (kd : Int) (k1 : (kd == 1) = false) (k2 : (kd == 2) = false) (k3 : (kd == 3) = false) (k4 : (kd == 4) = false) (k5 : (kd == 5) = false) (p : Option Addr) (a0 a1 : Option Addr) (c0 c1 : Nat) (vP : Value) (pl : Value) (O A : List UInt8) (base : Nat) (s o l i : Int) (w : World) (h1 : -9223372036854775808 ≤ l) (h2 : l ≤ 9223372036854775807) (h3 : -9223372036854775808 ≤ o) (h4 : o ≤ 9223372036854775807)
    (hB : Hid (Bf w base p O A)) :
    Calls Try.prog 12 #[.pointer p, .agg #[.slice a0 O.length c0, .slice a1 A.length c1], .agg #[.int .i64 kd, vP, .int .i64 s, .int .i64 o, .int .i64 l, .int .i64 i], pl] w fun e w' => e = .returned (.bool true) ∧ Below w.heap.size w w' := by
  go_enter Try.func12, Try.ntmps12
  go_wp2
  go_region_held3 (fun w' => w'.cell? ⟨w.heap.size, 0, none⟩ = some (.slice a0 O.length c0) ∧ w'.cell? ⟨w.heap.size, 1, none⟩ = some (.slice a1 A.length c1) ∧ w'.cell? ⟨w.heap.size + 1, 2, none⟩ = some (.int .i64 s) ∧ w'.cell? ⟨w.heap.size + 1, 3, none⟩ = some (.int .i64 o) ∧ w'.cell? ⟨w.heap.size + 1, 4, none⟩ = some (.int .i64 l)) (first | assumption | simp [*, go_sem])
    (first | (go_at_call 22; refine (holds_any p s o l O A base _ h1 h2 ?_).mono ?_; (first | exact (((hB.out.alloc _).alloc _).drew) | exact (((hB.out.alloc _).alloc _).drew).keep hb8); rintro e w9 ⟨rfl, hb9⟩; have k9 : w9.cell? ⟨w.heap.size, 0, none⟩ = some (.slice a0 O.length c0) ∧ w9.cell? ⟨w.heap.size, 1, none⟩ = some (.slice a1 A.length c1) ∧ w9.cell? ⟨w.heap.size + 1, 2, none⟩ = some (.int .i64 s) ∧ w9.cell? ⟨w.heap.size + 1, 3, none⟩ = some (.int .i64 o) ∧ w9.cell? ⟨w.heap.size + 1, 4, none⟩ = some (.int .i64 l) := keep5 hb9 (by first | assumption | simp [*, go_sem])) | (go_at_call 32; refine (refHolds_any a0 a1 c0 c1 O A s o l _ h3 h4).mono ?_; rintro e w8 ⟨rfl, hb8⟩; have k8 : w8.cell? ⟨w.heap.size, 0, none⟩ = some (.slice a0 O.length c0) ∧ w8.cell? ⟨w.heap.size, 1, none⟩ = some (.slice a1 A.length c1) ∧ w8.cell? ⟨w.heap.size + 1, 2, none⟩ = some (.int .i64 s) ∧ w8.cell? ⟨w.heap.size + 1, 3, none⟩ = some (.int .i64 o) ∧ w8.cell? ⟨w.heap.size + 1, 4, none⟩ = some (.int .i64 l) := keep5 hb8 (by first | assumption | simp [*, go_sem])))
  have L9 : Below w.heap.size w w9 := (bAlloc (bAlloc (Below.refl w.heap.size w) _) _).drew.trans (hb9.mono (by simp; omega))
  have L8 := L9.trans (hb8.mono L9.size)
  clear L9 hb9 hb8 k8 k9
  go_wp2
  go_ret
  exact ⟨rfl, L8⟩

end Go.Proofs.Ytfjfflkdcmpgnaa
