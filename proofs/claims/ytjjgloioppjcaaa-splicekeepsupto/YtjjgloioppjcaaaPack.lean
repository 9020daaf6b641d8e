/- The contracts of Pack and of the reference's Pack. -/
import Derived.Test.YtjjgloioppjcaaaTogether
namespace Go.Proofs.Ytjjgloioppjcaaa
open Go.RowKit

theorem own_lower {w : World} {base base' e size n : Nat} {v : Value} {xs : List Value} (h : w.ownsRow base e size v n xs) (hb : base' ≤ base) : w.ownsRow base' e size v n xs := by
  refine ⟨h.1, ?_⟩
  rcases h.2 with h0 | ⟨g, cap, cur, rfl, hb', rest⟩
  · exact .inl h0
  · exact .inr ⟨g, cap, cur, rfl, by omega, rest⟩
theorem Gave.lower {w w2 w' : World} {A : List Sp} {e : Ending} (h : Gave w2.heap.size w2 A e w') (hb : Below w.heap.size w w2) : Gave w.heap.size w A e w' := by
  obtain ⟨v, h1, h2, h3, h4⟩ := h
  exact ⟨v, h1, own_lower h2 hb.size, bT hb h3, (bT hb h3).size⟩
/-- Pack's answer -/
def packA (L : List Sp) : List Sp := if okL L = true then packL L else []
theorem packA_ok (L : List Sp) : okL (packA L) = true := by
  unfold packA; split
  · exact packL_ok (by assumption)
  · rfl
theorem packA_length (L : List Sp) : (packA L).length ≤ L.length := by
  unfold packA; split
  · exact packL_length L
  · simp
theorem lsts_one {w : World} {ao : Option Addr} {c : Nat} {L : List Sp} (h : Rdb w (.slice ao L.length c) L) : Lsts (w.alloc (.cells #[.slice ao L.length c] 22)) w.heap.size [L] := by
  intro i L' hi
  cases i with
  | zero => simp at hi; subst hi; exact ⟨.slice ao L.length c, by simp, h.keep (bAlloc (Below.refl _ _) _)⟩
  | succ i => simp at hi

/-- together, of one list, in a block that was just made -/
theorem together_one (ao : Option Addr) (c : Nat) (L : List Sp) (w w0 : World) (hok : okL L = true) (hz : L.length * 24 ≤ 140737488355328) (hr : Rdb w (.slice ao L.length c) L) (hb : Below w0.heap.size w0 w) :
    Calls Try.prog 29 #[.slice (some ⟨w.heap.size, 0, none⟩) 1 1] (w.alloc (.cells #[.slice ao L.length c] 22)) fun e w' => Gave w0.heap.size w0 (packL L) e w' := by
  have h := together_any w.heap.size 1 1 [L] (w.alloc (.cells #[.slice ao L.length c] 22)) rfl (by omega) (by unfold Hid; simpa using hok) (by unfold Hid; simpa using hz) (lsts_one hr)
  refine h.mono fun e w' hg => ?_
  have e1 : [L].flatten = L := by simp
  rw [e1] at hg
  exact hg.lower (bAlloc hb _)

set_option maxRecDepth 100000 in
set_option maxHeartbeats 2000000 in
theorem Pack_any (ao : Option Addr) (c : Nat) (L : List Sp) (w : World) (hz : L.length * 24 ≤ 140737488355328) (hg : Hid (Rng L)) (hr : Hid (Rdb w (.slice ao L.length c) L)) :
    Calls Try.prog 13 #[.slice ao L.length c] w fun e w' => Gave w.heap.size w (packA L) e w' := by
  obtain ⟨ao', n', c', e1, _, _, h4⟩ := hr.out
  have HR : Hid (L = [] ∨ ∃ b off, ao = some ⟨b, off, none⟩ ∧ Row w b off L) := by simp at e1; rw [e1.1]; exact h4
  clear e1 h4
  cases hok : okL L with
  | false =>
    have HO : Hid (okL L = false) := hok
    clear hok
    go_enter Try.func13, Try.ntmps13
    go_wp2_with (go_at_call 28; refine (allRight_any ao _ c L _ rfl (by omega) hg HR).mono ?_; rintro e w9 ⟨rfl, hb9⟩; rw [HO.out])
    go_ret
    exact ⟨_, rfl, by rw [packA, if_neg (by rw [HO.out]; simp)]; exact World.ownsRow_nil _ _ _ _, hb9, hb9.size⟩
  | true =>
    have HO : Hid (okL L = true) := hok
    clear hok
    go_enter Try.func13, Try.ntmps13
    go_wp2_with (first | (go_at_call 28; refine (allRight_any ao _ c L _ rfl (by omega) hg HR).mono ?_; rintro e w9 ⟨rfl, hb9⟩; rw [HO.out]; have HB9 : Hid (Below w.heap.size w w9) := hb9; clear hb9)
                       | (go_at_call 29; (have Q := together_one ao c L w9 w HO.out hz (hr.out.keep HB9.out) HB9.out); refine Q.mono ?_; clear Q; rintro e w8 ⟨v8, rfl, hown8, hb8, hs8⟩; have H8 : Hid (w8.ownsRow w.heap.size 39 3 v8 (packL L).length (cells (packL L)) ∧ Below w.heap.size w w8 ∧ w.heap.size ≤ w8.heap.size) := ⟨hown8, hb8, hs8⟩; clear hown8 hb8 hs8))
    go_ret
    exact ⟨v8, rfl, by rw [packA, if_pos HO.out]; exact H8.out.1, H8.out.2⟩

set_option maxRecDepth 100000 in
set_option maxHeartbeats 2000000 in
theorem refPack_any (ao : Option Addr) (c : Nat) (L : List Sp) (w : World) (hz : L.length * 24 ≤ 140737488355328) (hr : Hid (Rdb w (.slice ao L.length c) L)) :
    Calls Try.prog 10 #[.slice ao L.length c] w fun e w' => Gave w.heap.size w (packA L) e w' := by
  obtain ⟨ao', n', c', e1, _, _, h4⟩ := hr.out
  have HR : Hid (L = [] ∨ ∃ b off, ao = some ⟨b, off, none⟩ ∧ Row w b off L) := by simp at e1; rw [e1.1]; exact h4
  clear e1 h4 hr
  cases hok : okL L with
  | false =>
    have HO : Hid (okL L = false) := hok
    clear hok
    go_enter Try.func10, Try.ntmps10
    go_wp2_with (go_at_call 26; refine (refAllRight_any ao _ c L _ rfl (by omega) HR).mono ?_; rintro e w9 ⟨rfl, hb9⟩; rw [HO.out])
    go_ret
    exact ⟨_, rfl, by rw [packA, if_neg (by rw [HO.out]; simp)]; exact World.ownsRow_nil _ _ _ _, hb9, hb9.size⟩
  | true =>
    have HO : Hid (okL L = true) := hok
    clear hok
    go_enter Try.func10, Try.ntmps10
    go_wp2_with (go_at_call 26; refine (refAllRight_any ao _ c L _ rfl (by omega) HR).mono ?_; rintro e w9 ⟨rfl, hb9⟩; rw [HO.out]; have HB9 : Hid (Below w.heap.size w w9) := hb9; clear hb9)
    go_loopw [3, 4] (fun v i wq => ∃ m : Nat, m ≤ L.length ∧ i = .int .i64 m ∧ Sofar w (packL (L.take m)) v wq) (fun _ i _ => L.length - (intOf i).toNat)
    case atStart => exact ⟨0, Nat.zero_le _, rfl, World.ownsRow_nil _ _ _ _, HB9.out⟩
    case round =>
      obtain ⟨m, hm, rfl, hS2⟩ := hrel
      have HT : Hid (Sofar w (packL (L.take m)) u3 wr) := hS2
      clear hS2 HB9
      by_cases hmt : m < L.length
      · rcases HR.out with hn | ⟨b', off, rfl, hrw⟩
        · rw [hn] at hmt; simp at hmt
        rcases hp : L[m]? with _ | ⟨s, o, l⟩
        · have := List.getElem?_eq_none_iff.1 hp; omega
        obtain ⟨r0, r1, r2⟩ := row3 (hrw.keep HT.out.2) hp
        have hm0 : (0 : Int) ≤ (m : Int) := by omega
        have hml : (m : Int) < (L.length : Int) := by omega
        have P := lay_any w.heap.size w (packL (L.take m)) u3 ⟨s, o, l⟩ wr (packL_ok (okL_takes HO.out m)) (okL_mem HO.out (List.mem_of_getElem? hp)) (by have h1 := packL_length (L.take m); have h2 : (L.take m).length ≤ m := List.length_take_le _ _; omega) HT.out.1 HT.out.2 HT.out.2.size
        rw [← packL_take hp] at P
        have HPP := Hid.mk' P
        clear hp P
        go_wp2_with (go_at_call 27; refine HPP.out.mono ?_; rintro e w8 ⟨v8, rfl, hown8, hb8, _⟩; have H8 : Hid (Sofar w (packL (L.take (m + 1))) v8 w8) := ⟨hown8, hb8⟩; clear hown8 hb8)
        go_roundw
        case rel => exact ⟨m + 1, by omega, by go_num, H8.out⟩
        case measure => simp [intOf]; omega
      · obtain rfl : m = L.length := by omega
        rw [List.take_length] at HT
        go_wp2
        go_ret
        exact ⟨_, rfl, by rw [packA, if_pos HO.out]; exact HT.out.1, HT.out.2, HT.out.2.size⟩
end Go.Proofs.Ytjjgloioppjcaaa
