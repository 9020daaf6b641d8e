/- The contract of shade.Build: the pieces that are fit, made a tree. -/
import Derived.Test.YtpifjghhlcjedaaBuild
import Derived.OwnWalk
import Derived.Laws.AppendOwnNone
namespace Go.Proofs.Ytpifjghhlcjedaa
open Go.RowKit

/-- A piece's cells. -/
def Pc.cs (p : Pc) : List Value := [.int .i64 p.s, .int .i64 p.o, .int .i64 p.l, .int .i64 p.n]
def cells (L : List Pc) : List Value := L.flatMap Pc.cs
theorem cells_length (L : List Pc) : (cells L).length = L.length * 4 := by
  induction L with
  | nil => rfl
  | cons p L ih => simp only [cells, List.flatMap_cons, List.length_append, List.length_cons] at *; rw [ih]; simp [Pc.cs]; omega
theorem cells_append (L M : List Pc) : cells (L ++ M) = cells L ++ cells M := by simp [cells]
theorem cells_at {L : List Pc} {j : Nat} {p : Pc} (h : L[j]? = some p) (i : Nat) (hi : i < 4) : (cells L)[j * 4 + i]? = p.cs[i]? := by
  induction L generalizing j with
  | nil => simp at h
  | cons q L ih =>
    have e : cells (q :: L) = q.cs ++ cells L := by simp [cells]
    rw [e]
    cases j with
    | zero =>
      simp at h; subst h
      rw [Nat.zero_mul, Nat.zero_add, List.getElem?_append_left (by simp [Pc.cs]; omega)]
    | succ j =>
      rw [List.getElem?_cons_succ] at h
      rw [List.getElem?_append_right (by simp [Pc.cs]; omega)]
      rw [← ih h]
      congr 1
      simp [Pc.cs]; omega

/-- a row that the call owns is a list that can be read -/
theorem own_rdb {w : World} {base e n : Nat} {v : Value} {L : List Pc} (h : w.ownsRow base e 4 v n (cells L)) : Rdb w v L := by
  have hl : n = L.length := by have := h.1; rw [cells_length] at this; omega
  rcases h.2 with ⟨rfl, rfl⟩ | ⟨g, cap, cur, rfl, hb, hg, h1, h2, h3, h4⟩
  · exact ⟨_, _, _, rfl, hl, Nat.le_refl _, .inl (List.eq_nil_of_length_eq_zero hl.symm)⟩
  · refine ⟨_, _, _, rfl, hl, h1, .inr ⟨g, 0, rfl, fun j p hj => ?_⟩⟩
    have hlt := (List.getElem?_eq_some_iff.1 hj).1
    have c := fun i (hi : i < 4) => (h.cellAt (j * 4 + i) (by omega)).trans (cells_at hj i hi)
    rw [Nat.zero_add]
    exact ⟨by simpa [Pc.cs] using c 0 (by omega), by simpa [Pc.cs] using c 1 (by omega), by simpa [Pc.cs] using c 2 (by omega), by simpa [Pc.cs] using c 3 (by omega)⟩

/-- the pieces that are fit -/
def good (L : List Pc) : List Pc := L.filter fun p => fitB p.l p.n
theorem good_le (L : List Pc) : (good L).length ≤ L.length := List.length_filter_le _ _
theorem good_fit {L : List Pc} : ∀ p ∈ good L, p.fit := by
  intro p hp
  have := (List.mem_filter.1 hp).2
  exact (fitB_iff p.s p.o p.l p.n).1 this
theorem good_take {L : List Pc} {j : Nat} {p : Pc} (h : L[j]? = some p) : good (L.take (j + 1)) = good (L.take j) ++ if fitB p.l p.n = true then [p] else [] := by
  obtain ⟨h1, h2⟩ := List.getElem?_eq_some_iff.1 h
  unfold good
  rw [List.take_succ_eq_append_getElem h1, List.filter_append, h2]
  congr 1
  simp only [List.filter_cons, List.filter_nil]

theorem info32 : (Try.prog.info? 32).map (fun i => (i.zero, i.size, i.bytes)) = some (some (.agg #[.int .i64 0, .int .i64 0, .int .i64 0, .int .i64 0]), 4, 32) := by kernel_rfl

theorem lit_cells (w : World) (cs : Array Value) (e : TypeId) (j : Nat) (u : Value) (h : cs.toList[j]? = some u) : (w.alloc (.cells cs e)).cell? ((⟨w.heap.size, 0, none⟩ : Addr).add j) = some u := by
  have : (⟨w.heap.size, 0, none⟩ : Addr).add j = ⟨w.heap.size, j, none⟩ := by unfold Addr.add; split <;> simp_all
  rw [this, World.cell?_alloc_mark, ← Array.getElem?_toList]; exact h

theorem Rdb.keep {w w' : World} {v : Value} {L : List Pc} (h : Rdb w v L) (hb : Below w.heap.size w w') : Rdb w' v L := by
  obtain ⟨ao, n, c, h1, h2, h3, h4⟩ := h
  refine ⟨ao, n, c, h1, h2, h3, ?_⟩
  rcases h4 with h4 | ⟨b, off, h5, h6⟩
  · exact .inl h4
  · exact .inr ⟨b, off, h5, h6.keep hb⟩

theorem fineL_good {L : List Pc} (h : L.length ≤ 1048576) : fineL (good L) := ⟨good_fit, Nat.le_trans (good_le L) h⟩

/-- a store into a block that is no node -/
theorem At.put {w : World} {b i t : Nat} {cs : Array Value} {v : Value} (hb : w.heap[b]? = some (.cells cs t (0, 0))) (ht : t ≠ 137) : ∀ {T : Tr} {a : Option Addr}, At w T a → At (w.setCell ⟨b, i, none⟩ v) T a
  | (Tr.mk none), _, h => h
  | (Tr.mk (some (c, l, p, r))), _, ⟨b', la, ra, e, h, h1, h2⟩ => by
    refine ⟨b', la, ra, e, ?_, h1.put hb ht, h2.put hb ht⟩
    rw [Below.heap_setCell _ _ _ _ ?_]
    · exact h
    · intro e1
      have e2 : b' = b := e1
      subst e2
      rw [hb] at h
      have := Option.some.inj h
      unfold nodeObj at this
      injection this with _ e3 _
      exact ht e3

set_option maxHeartbeats 4000000 in
theorem Build_any (v : Value) (L : List Pc) (w : World) (hz : L.length ≤ 1048576) (h : Hid (Rdb w v L)) :
    Calls Try.prog 12 #[v] w fun e w' => ∃ a, e = .returned (.agg #[.pointer a]) ∧ At w' (Tr.buildT (good L)) a ∧ Below w.heap.size w w' := by
  obtain ⟨ao, n, c, rfl, hn, hc, hr⟩ := h.out
  have HR : Hid (L = [] ∨ ∃ b off, ao = some ⟨b, off, none⟩ ∧ Row w b off L) := hr
  subst hn
  clear h hr
  obtain ⟨i0, hi, hz0, hz1, hz2⟩ := info_parts info32
  go_enter Try.func12, Try.ntmps12
  go_wp2
  go_loopw [3, 8] (fun g i wr => ∃ j : Nat, j ≤ L.length ∧ i = .int .i64 j ∧ wr.ownsRow (w.heap.size + 1) 32 4 g (good (L.take j)).length (cells (good (L.take j))) ∧ Below (w.alloc (.cells #[.pointer none] 26)).heap.size (w.alloc (.cells #[.pointer none] 26)) wr) (fun _ i _ => L.length - (intOf i).toNat)
  case atStart => exact ⟨0, Nat.zero_le _, rfl, World.ownsRow_nil _ _ _ _, Below.refl _ _⟩
  case round =>
    obtain ⟨j, hj, rfl, hown, hb⟩ := hrel
    have HW : Hid (wr.ownsRow (w.heap.size + 1) 32 4 u3 (good (L.take j)).length (cells (good (L.take j)))) := hown
    have HB : Hid (Below (w.alloc (.cells #[.pointer none] 26)).heap.size (w.alloc (.cells #[.pointer none] 26)) wr) := hb
    clear hown hb
    by_cases hlt : j < L.length
    · rcases HR.out with hn | ⟨b, off, rfl, hr⟩
      · rw [hn] at hlt; simp at hlt
      rcases hp : L[j]? with _ | ⟨s, o, n, k⟩
      · have := List.getElem?_eq_none_iff.1 hp; omega
      obtain ⟨r0, r1, r2, r3⟩ := row4 (hr.keep (bA HB.out)) hp
      have hj0 : (0 : Int) ≤ (j : Int) := by omega
      have hjl : (j : Int) < (L.length : Int) := by omega
      have HG : Hid (good (L.take (j + 1)) = good (L.take j) ++ if fitB n k = true then [⟨s, o, n, k⟩] else []) := good_take hp
      have hgl : (good (L.take j)).length ≤ j := by have := good_le (L.take j); have := List.length_take_le j L; omega
      clear hr hp
      cases hf : fitB n k with
      | false =>
        rw [hf] at HG
        go_wp2_with (go_at_call 53; refine (fit_any s o n k _).mono ?_; rintro e w' ⟨rfl, rfl⟩; rw [hf])
        go_roundw
        case rel => exact ⟨j + 1, by omega, by go_num, by rw [HG.out]; simpa using (HW.out.alloc _).alloc _, bAlloc (bAlloc HB.out _) _⟩
        case measure => simp [intOf]; omega
      | true =>
        rw [hf] at HG
        go_wp2_with (first | (go_at_call 53; refine (fit_any s o n k _).mono ?_; rintro e w' ⟨rfl, rfl⟩; rw [hf])
                           | (at_builtin; refine wpList_append_own _ rfl (.tmp 14) (.tmp 16) 33 rfl (w.heap.size + 1) 32 i0 (.agg #[.int .i64 0, .int .i64 0, .int .i64 0, .int .i64 0]) 4 32 Try.underlying33 hi hz0 hz1 hz2 rfl (by decide) u3 (good (L.take j)).length (cells (good (L.take j))) rfl (((HW.out.alloc _).alloc _).alloc _) ⟨wr.heap.size + 1 + 1, 0, none⟩ 1 1 [.int .i64 s, .int .i64 o, .int .i64 n, .int .i64 k] rfl rfl ?qd2 ?qd3 ?qd4 ?qd5 ?qd6 ?_))
        case qd2 => exact fun k' u hk => by have := lit_cells ((wr.alloc (.cells #[.int .i64 s, .int .i64 o, .int .i64 n, .int .i64 k] 32)).alloc (.cells #[.int .i64 s, .int .i64 o, .int .i64 n, .int .i64 k] 32)) #[.int .i64 s, .int .i64 o, .int .i64 n, .int .i64 k] 32 k' u hk; simpa using this
        case qd3 => intro u hu; simp at hu; rcases hu with rfl | rfl | rfl | rfl <;> rfl
        case qd4 => unfold maxLen; omega
        case qd5 => omega
        case qd6 => have := HB.out.size; simp at this ⊢; omega
        intro v' w2 hown hgrow _
        have HW2 : Hid (w2.ownsRow (w.heap.size + 1) 32 4 v' (good (L.take (j + 1))).length (cells (good (L.take (j + 1))))) := by
          unfold Hid
          rw [HG.out]
          simp only [if_true, List.length_append, cells_append]
          exact hown
        have HB2 : Hid (Below (w.alloc (.cells #[.pointer none] 26)).heap.size (w.alloc (.cells #[.pointer none] 26)) w2) := (bAlloc (bAlloc (bAlloc HB.out _) _) _).grown hgrow (by have := HB.out.size; simp at this ⊢; omega) (fun k hk => by have := (HW.out.lt k hk).1; simpa using this)
        clear hown hgrow
        go_wp2
        go_roundw
        case rel => exact ⟨j + 1, by omega, by go_num, HW2.out, HB2.out⟩
        case measure => simp [intOf]; omega
    · obtain rfl : j = L.length := by omega
      rw [List.take_length] at HW
      have HB' := HB.out
      have c0 : (w.alloc (.cells #[.pointer none] 26)).cell? ⟨w.heap.size, 0, none⟩ = some (.pointer none) := by simp
      have f0 : (w.alloc (.cells #[.pointer none] 26)).frozen? ⟨w.heap.size, 0, none⟩ = false := by simp
      have z0 : wr.cell? ⟨w.heap.size, 0, none⟩ = some (.pointer none) := by rw [HB'.cell (by simp)]; exact c0
      have z1 : wr.frozen? ⟨w.heap.size, 0, none⟩ = false := by rw [HB'.frozen (by simp)]; exact f0
      clear c0 f0 HB'
      have hzl : (w.alloc (.cells #[.pointer none] 26)).heap.size ≤ wr.heap.size := HB.out.size
      simp at hzl
      go_wp2_with (go_at_call 54; refine (build_any _ (good L) _ _ (Nat.le_refl _) (fineL_good hz) (own_rdb HW.out)).mono ?_; rintro e w9 ⟨x9, rfl, hx9, hb9⟩; have y0 : w9.cell? ⟨w.heap.size, 0, none⟩ = some (.pointer none) := (hb9.cell (p := ⟨w.heap.size, 0, none⟩) (by simp; omega)).trans z0; have y1 : w9.frozen? ⟨w.heap.size, 0, none⟩ = false := (hb9.frozen (p := ⟨w.heap.size, 0, none⟩) (by simp; omega)).trans z1)
      have hh : wr.heap[w.heap.size]? = some (.cells #[.pointer none] 26 (0, 0)) := by
        rw [HB.out.block w.heap.size (by simp)]; exact heap_alloc_new _ _
      refine bodyPost_ret (v := .agg #[.pointer x9]) (by simp [results, Try.results12, go_sem, y0]) rfl ⟨x9, rfl, hx9.put (nkeep hh hb9) (by decide), ?_⟩
      exact ((bA HB.out).trans (hb9.mono (by omega))).setCell (p := ⟨w.heap.size, 0, none⟩) (Nat.le_refl _) _
end Go.Proofs.Ytpifjghhlcjedaa
