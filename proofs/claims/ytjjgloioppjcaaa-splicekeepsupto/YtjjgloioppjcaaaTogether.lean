/- The contracts of together and Pack, and of the reference's Pack. -/
import Derived.Test.YtjjgloioppjcaaaLay
namespace Go.Proofs.Ytjjgloioppjcaaa
open Go.RowKit

/-- The lists of LL lie in block b of W. -/
def Lsts (W : World) (b : Nat) (LL : List (List Sp)) : Prop := ∀ i L, LL[i]? = some L → ∃ v, W.cell? ⟨b, i, none⟩ = some v ∧ Rdb W v L
theorem Lsts.keep {w w' : World} {b : Nat} {LL : List (List Sp)} (h : Lsts w b LL) (hb : Below w.heap.size w w') : Lsts w' b LL := by
  intro i L hi
  obtain ⟨v, h1, h2⟩ := h i L hi
  exact ⟨v, by rw [hb.cell (cell_lt h1)]; exact h1, h2.keep hb⟩
theorem flatten_take {LL : List (List Sp)} {i : Nat} {L : List Sp} (h : LL[i]? = some L) : (LL.take (i + 1)).flatten = (LL.take i).flatten ++ L := by
  obtain ⟨h1, h2⟩ := List.getElem?_eq_some_iff.1 h
  rw [List.take_succ_eq_append_getElem h1, h2]; simp
theorem flatten_le {LL : List (List Sp)} {i : Nat} {L : List Sp} (h : LL[i]? = some L) : (LL.take i).flatten.length + L.length ≤ LL.flatten.length := by
  have e := flatten_take h
  have : LL.flatten = (LL.take (i + 1)).flatten ++ (LL.drop (i + 1)).flatten := by rw [← List.flatten_append, List.take_append_drop]
  rw [this, e]; simp only [List.length_append]; omega
theorem okL_flatten {LL : List (List Sp)} {i : Nat} {L : List Sp} (h : LL[i]? = some L) (hk : okL LL.flatten = true) : okL (LL.take i).flatten = true ∧ okL L = true := by
  have e := flatten_take h
  have : LL.flatten = (LL.take (i + 1)).flatten ++ (LL.drop (i + 1)).flatten := by rw [← List.flatten_append, List.take_append_drop]
  rw [this, e, okL_append, okL_append] at hk
  simp only [Bool.and_eq_true] at hk
  exact hk.1
theorem foldl_take {A L : List Sp} {j : Nat} {p : Sp} (h : L[j]? = some p) : (L.take (j + 1)).foldl putL A = putL ((L.take j).foldl putL A) p := by
  obtain ⟨h1, h2⟩ := List.getElem?_eq_some_iff.1 h
  rw [List.take_succ_eq_append_getElem h1, List.foldl_append, h2]; rfl
theorem okL_takes {L : List Sp} (h : okL L = true) (j : Nat) : okL (L.take j) = true := by
  have : L = L.take j ++ L.drop j := (List.take_append_drop j L).symm
  rw [this, okL_append] at h
  simp only [Bool.and_eq_true] at h
  exact h.1

theorem Hid.mk' {p : Prop} (h : p) : Hid p := h
/-- the list that has come about -/
def Sofar (w : World) (A : List Sp) (v : Value) (wr : World) : Prop := wr.ownsRow w.heap.size 39 3 v A.length (cells A) ∧ Below w.heap.size w wr

set_option maxRecDepth 100000 in
set_option maxHeartbeats 4000000 in
theorem together_any (b k c : Nat) (LL : List (List Sp)) (w : World) (hk : k = LL.length) (hkz : k ≤ 1000) (hok : Hid (okL LL.flatten = true)) (hz : Hid (LL.flatten.length * 24 ≤ 140737488355328)) (hr : Hid (Lsts w b LL)) :
    Calls Try.prog 29 #[.slice (some ⟨b, 0, none⟩) k c] w fun e w' => Gave w.heap.size w (packL LL.flatten) e w' := by
  subst hk
  go_enter Try.func29, Try.ntmps29
  go_wp2
  go_loopw [3, 10] (fun v i wr => ∃ j : Nat, j ≤ LL.length ∧ i = .int .i64 j ∧ Sofar w (packL (LL.take j).flatten) v wr) (fun _ i _ => LL.length - (intOf i).toNat)
  case atStart => exact ⟨0, Nat.zero_le _, rfl, World.ownsRow_nil _ _ _ _, Below.refl _ _⟩
  case round =>
    obtain ⟨j, hj, rfl, hS⟩ := hrel
    have HS : Hid (Sofar w (packL (LL.take j).flatten) u3 wr) := hS
    clear hS
    by_cases hlt : j < LL.length
    · rcases hp : LL[j]? with _ | L
      · have := List.getElem?_eq_none_iff.1 hp; omega
      obtain ⟨v9, c8, hR⟩ := hr.out j L hp
      have c9 : wr.cell? ⟨b, j, none⟩ = some v9 := by rw [HS.out.2.cell (cell_lt c8)]; exact c8
      clear c8
      obtain ⟨ao, n, cc, rfl, hn, hnc, hrow⟩ := hR
      subst hn
      have HR : Hid (L = [] ∨ ∃ b off, ao = some ⟨b, off, none⟩ ∧ Row w b off L) := hrow
      have HP : Hid (LL[j]? = some L) := hp
      have hj0 : (0 : Int) ≤ (j : Int) := by omega
      have hjl : (j : Int) < (LL.length : Int) := by omega
      have hle := flatten_le hp
      have hzz := hz.out
      have hL : L.length ≤ 140737488355328 := by omega
      obtain ⟨ok1, ok2⟩ := okL_flatten hp hok.out
      have OK1 : Hid (okL (LL.take j).flatten = true) := ok1
      have OK2 : Hid (okL L = true) := ok2
      have HL : Hid ((packL (LL.take j).flatten).length + L.length ≤ LL.flatten.length) := by have := packL_length (LL.take j).flatten; unfold Hid; omega
      clear hrow hp ok1 ok2 hle hzz
      go_wp2
      go_loopw [3, 16] (fun v i wq => ∃ m : Nat, m ≤ L.length ∧ i = .int .i64 m ∧ Sofar w ((L.take m).foldl putL (packL (LL.take j).flatten)) v wq) (fun _ i _ => L.length - (intOf i).toNat)
      case atStart => exact ⟨0, Nat.zero_le _, rfl, HS.out⟩
      case round =>
        obtain ⟨m, hm, rfl, hS2⟩ := hrel
        have HT : Hid (Sofar w ((L.take m).foldl putL (packL (LL.take j).flatten)) u3 wr) := hS2
        clear hS2 HS
        by_cases hmt : m < L.length
        · rcases HR.out with hn | ⟨b', off, rfl, hrw⟩
          · rw [hn] at hmt; simp at hmt
          rcases hp : L[m]? with _ | ⟨s, o, l⟩
          · have := List.getElem?_eq_none_iff.1 hp; omega
          obtain ⟨r0, r1, r2⟩ := row3 (hrw.keep HT.out.2) hp
          have HQ : Hid (L[m]? = some ⟨s, o, l⟩) := hp
          have hm0 : (0 : Int) ≤ (m : Int) := by omega
          have hml : (m : Int) < (L.length : Int) := by omega
          have P := put_any w.heap.size w ((L.take m).foldl putL (packL (LL.take j).flatten)) u3 ⟨s, o, l⟩ (wr.alloc (.cells #[.int .i64 s, .int .i64 o, .int .i64 l] 39)) (foldl_putL_ok _ _ (packL_ok OK1.out) (okL_takes OK2.out m)) (okL_mem OK2.out (List.mem_of_getElem? hp)) (by have h1 := foldl_putL_length (L.take m) (packL (LL.take j).flatten); have h2 : (L.take m).length ≤ m := List.length_take_le _ _; have := HL.out; have := hz.out; omega) (HT.out.1.alloc _) (bAlloc HT.out.2 _) (by have := HT.out.2.size; simp; omega)
          rw [← foldl_take hp] at P
          have HPP := Hid.mk' P
          clear hp P
          go_wp2_with (go_at_call 37; refine HPP.out.mono ?_; rintro e w9 ⟨v9, rfl, hown9, hb9, _⟩; have H9 : Hid (Sofar w ((L.take (m + 1)).foldl putL (packL (LL.take j).flatten)) v9 w9) := ⟨hown9, hb9⟩; clear hown9 hb9)
          go_roundw
          case rel => exact ⟨m + 1, by omega, by go_num, H9.out⟩
          case measure => simp [intOf]; omega
        · obtain rfl : m = L.length := by omega
          rw [List.take_length] at HT
          have HE : Hid (packL (LL.take (j + 1)).flatten = L.foldl putL (packL (LL.take j).flatten)) := by
            unfold Hid packL
            rw [flatten_take HP.out, List.foldl_append]
          go_wp2
          go_roundw
          case rel => exact ⟨j + 1, by omega, by go_num, by rw [HE.out]; exact HT.out⟩
          case measure => simp [intOf]; omega
    · obtain rfl : j = LL.length := by omega
      rw [List.take_length] at HS
      go_wp2
      go_ret
      exact ⟨_, rfl, HS.out.1, HS.out.2, HS.out.2.size⟩
end Go.Proofs.Ytjjgloioppjcaaa
