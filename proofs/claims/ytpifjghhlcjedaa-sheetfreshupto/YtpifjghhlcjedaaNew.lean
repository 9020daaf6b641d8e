/- A new sheet. -/
import Derived.Test.YtpifjghhlcjedaaPutp
namespace Go.Proofs.Ytpifjghhlcjedaa
open Go.RowKit

/-- The tree of a new sheet. -/
def NewR (l : List UInt8) (t : Tr) : Prop := (l = [] ∧ t = Tr.gluT (Tr.mk none) (Tr.mk none)) ∨ (l ≠ [] ∧ t = Tr.joinT (Tr.mk none) ⟨0, 0, l.length, Ab.nl l⟩ (Tr.mk none))

theorem NewR.ok {l : List UInt8} {t : Tr} (h : NewR l t) (hz : l.length ≤ 1048576) : t.whole ∧ Gds l [] t.list ∧ txt l [] t.list = l ∧ t.list.length ≤ 1 := by
  rcases h with ⟨rfl, rfl⟩ | ⟨hl, rfl⟩
  · have e := Tr.gluT_list (Tr.mk none) (Tr.mk none)
    simp only [Tr.list, List.append_nil] at e
    exact ⟨Tr.gluT_whole nil_whole nil_whole, by rw [e]; exact Gds.nil _ _, by rw [e]; rfl, by rw [e]; simp⟩
  · have e := Tr.joinT_list (Tr.mk none) ⟨0, 0, l.length, Ab.nl l⟩ (Tr.mk none)
    simp only [Tr.list, List.nil_append] at e
    have ep : pcs l [] ⟨0, 0, l.length, Ab.nl l⟩ = l := by simp [pcs, Ab.cutL, Ab.which]
    have h1 : 0 < l.length := List.length_pos_iff.2 hl
    have h2 := Ab.nl_le l
    have g : Gd l [] ⟨0, 0, l.length, Ab.nl l⟩ := by
      refine ⟨?_, ?_, by rw [ep]⟩
      · show (1 : Int) ≤ l.length ∧ (l.length : Int) ≤ 2147483647 ∧ (0 : Int) ≤ Ab.nl l ∧ (Ab.nl l : Int) ≤ l.length
        omega
      · exact Ab.hd_true (o := 0) (l := l.length) (snd_true ⟨.inl rfl, by omega, by omega, by omega⟩) (show 0 + l.length ≤ (Ab.which 0 l []).length by simp [Ab.which])
    exact ⟨Tr.joinT_whole _ nil_whole nil_whole, by rw [e]; exact Gds.cons g (Gds.nil _ _), by rw [e, txt_cons, ep]; simp [txt_nil], by rw [e]; simp⟩

set_option maxHeartbeats 2000000 in
theorem New_any (ao : Option Addr) (c : Nat) (l : List UInt8) (w : World) (hz : l.length ≤ 1048576) (h : Hid (Ab.Rd w (.slice ao l.length c) l)) :
    Calls Try.prog 26 #[.slice ao l.length c] w fun e w' => ∃ sb bb vo a t, e = .returned (.pointer (some ⟨sb, 0, none⟩)) ∧ Sh w' w.heap.size sb bb vo (.slice none 0 0) l [] t a 0 ∧ NewR l t ∧ Below w.heap.size w w' := by
  have hnl := Ab.nl_le l
  have hpc := hid (fun W sb bb x y (hW : ShB W w.heap.size sb bb x y l []) => piece_yes sb bb x y l [] w.heap.size 0 0 l.length W (snd_true ⟨.inl rfl, by omega, by omega, by omega⟩) (by simp [Ab.which]) hW)
  rw [show Ab.cutL 0 ((0 : Nat) : Int) (l.length : Int) l [] = l by simp [Ab.cutL, Ab.which]] at hpc
  have hjn : Hid (∀ W, Calls Try.prog 13 #[.agg #[.pointer none], .agg #[.int .i64 0, .int .i64 0, .int .i64 (l.length : Int), .int .i64 (Ab.nl l : Nat)], .agg #[.pointer none]] W fun e w' => ∃ x t, e = .returned (.agg #[.pointer x]) ∧ NewR l t ∧ At w' t x ∧ Below W.heap.size W w') := fun W => by
    by_cases hl : l = []
    · refine (Join_glue (Tr.mk none) (Tr.mk none) none none 0 0 l.length (Ab.nl l : Nat) W (by rw [hl]; decide) (hid ⟨fun p hp => by simp [Tr.list] at hp, by simp [Tr.list]⟩) nil_whole nil_whole rfl rfl).mono ?_
      rintro e w' ⟨x, h1, h2, h3⟩
      exact ⟨x, _, h1, .inl ⟨hl, rfl⟩, h2, h3⟩
    · have h1 : 0 < l.length := List.length_pos_iff.2 hl
      have hf : fitB l.length (Ab.nl l : Nat) = true := by simp [fitB]; omega
      refine (Join_fit (Tr.mk none) (Tr.mk none) none none 0 0 l.length (Ab.nl l : Nat) W hf (hid ⟨fun p hp => ?_, by simp [Tr.list]⟩) nil_whole nil_whole rfl rfl).mono ?_
      · simp [Tr.list] at hp
        subst hp
        simpa [fitB, Pc.fit] using hf
      rintro e w' ⟨x, h1, h2, h3⟩
      exact ⟨x, _, h1, .inr ⟨hl, rfl⟩, h2, h3⟩
  go_enter Try.func26, Try.ntmps26
  go_wp2_with (first
    | (go_at_call 69; refine (Ab.new_any _ l _ (by omega) h).mono ?_; rintro e w9 ⟨bb, vo, rfl, hB9, hb9⟩; have B9 := hid hB9; have S9 := hid (World.alloc_heap_new w9 (.cells #[.pointer (some ⟨bb, 0, none⟩), .pointer none, .int .i64 0] 113)); clear hB9)
    | (go_at_call 70; refine (hpc.out _ w9.heap.size (some ⟨bb, 0, none⟩) (.pointer none) (.int .i64 0) ⟨S9.out, .inr ⟨bb, vo, _, rfl, B9.out.alloc _⟩⟩).mono ?_; rintro e w8 ⟨rfl, hb8⟩; have S8 := hid ((hb8.block _ (sh_lt S9.out)).trans S9.out); have B8 := hid ((B9.out.alloc _).keep hb8); have hw8 := (bAlloc hb9 _).trans (hb8.mono (bAlloc hb9 _).size))
    | (go_at_call 13; refine (hjn.out _).mono ?_; rintro e w7 ⟨x7, t7, rfl, hn7, hx7, hb7⟩; have S7 := hid ((hb7.block _ (by have := sh_lt S8.out; simp; omega)).trans ((Below.heap_alloc w8 _ _ (sh_lt S8.out)).trans S8.out)); have B7 := hid ((B8.out.alloc _).keep hb7); obtain ⟨c0, c1, c2, f0, f1, f2⟩ := sh_cells S7.out; have hw7 := (bAlloc hw8 _).trans (hb7.mono (bAlloc hw8 _).size)))
  go_ret
  have s2 : ∀ k, k ≠ w9.heap.size → (w7.setCell ⟨w9.heap.size, 1, none⟩ (.pointer x7)).heap[k]? = w7.heap[k]? := fun k hk => Below.heap_setCell _ _ _ _ hk
  have s1 : (w7.setCell ⟨w9.heap.size, 1, none⟩ (.pointer x7)).heap[w9.heap.size]? = some (.cells #[.pointer (some ⟨bb, 0, none⟩), .pointer x7, .int .i64 0] 113 (0, 0)) := by
    obtain ⟨hlt, hk'⟩ := Array.getElem?_eq_some_iff.1 S7.out
    show (w7.heap.modify w9.heap.size _)[w9.heap.size]? = _
    rw [Array.getElem?_eq_getElem (by rw [Array.size_modify]; exact hlt), Array.getElem_modify_self, hk']
    rfl
  have N : ∀ (k : Nat) (cs : Array Value) (t : Nat), w7.heap[k]? = some (Obj.cells cs t (0, 0)) → t ≠ 113 → (w7.setCell ⟨w9.heap.size, 1, none⟩ (.pointer x7)).heap[k]? = some (.cells cs t (0, 0)) := fun k cs t hk htt =>
    (s2 k (fun e => by subst e; rw [S7.out] at hk; cases hk; exact htt rfl)).trans hk
  have NN : Nods w7 (w7.setCell ⟨w9.heap.size, 1, none⟩ (.pointer x7)) := fun b cs hb => N b cs _ hb (by decide)
  refine ⟨w9.heap.size, bb, vo, x7, t7, rfl, ⟨hb9.size, s1, ⟨B7.out.lo, N _ _ _ B7.out.here (by decide), ?_, ?_, B7.out.apart⟩, NN.at hx7⟩, hn7, bset hw7 hb9.size _ _⟩
  · exact own_same B7.out.orig fun k e hk => s2 k (fun e' => Ab.own_ne B7.out.orig S7.out (by decide) (by rw [e, e']))
  · exact own_same B7.out.added fun k e hk => s2 k (fun e' => Ab.own_ne B7.out.added S7.out (by decide) (by rw [e, e']))

end Go.Proofs.Ytpifjghhlcjedaa
