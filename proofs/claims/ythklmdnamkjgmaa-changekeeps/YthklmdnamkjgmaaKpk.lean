/- Rows in a stretch of blocks: what is written elsewhere leaves them. -/
import Derived.Test.YthklmdnamkjgmaaSpl
import Derived.Test.YthklmdnamkjgmaaWhl
import Derived.Test.YthklmdnamkjgmaaApw
namespace Go.Proofs.Ythklmdnamkjgmaa
open Go.RowKit

set_option maxRecDepth 8000
/-- rows that lie apart, in blocks from lo on and below hi -/
structure Rs (lo hi : Nat) (W : World) (R : List Rw) : Prop where
  own : ∀ (i : Nat) (r : Rw), R[i]? = some r → W.ownsRow lo r.t r.s r.v r.n r.xs
  up : ∀ (i : Nat) (r : Rw), R[i]? = some r → ∀ g, r.v.ownBlock = some g → g < hi
  far : ∀ (i j : Nat) (p q : Rw), i ≠ j → R[i]? = some p → R[j]? = some q → Far p.v q.v
theorem Rs.of {w W : World} {R : List Rw} (h : Rws w W R) : Rs w.heap.size W.heap.size W R := ⟨h.own, fun i r hi g hg => ((h.own i r hi).lt g hg).2, h.far⟩
theorem Rs.keep {lo hi : Nat} {W W' : World} {R : List Rw} (h : Rs lo hi W R) (hb : Below W.heap.size W W') : Rs lo hi W' R := ⟨fun i r hi => own_keep (h.own i r hi) hb, h.up, h.far⟩
theorem Rs.kept {lo hi a b : Nat} {W W' : World} {R : List Rw} (h : Rs lo hi W R) (hk : Kept a b W W') (hd : b ≤ lo ∨ hi ≤ a) : Rs lo hi W' R :=
  ⟨fun i r hi => own_same (h.own i r hi) (fun k h1 h2 => hk.block k h2 (by have := ((h.own i r hi).lt k h1).1; have := h.up i r hi k h1; omega)), h.up, h.far⟩
theorem Rs.rws {lo hi : Nat} {w W : World} {R : List Rw} (h : Rs lo hi W R) (hb : Below w.heap.size w W) (hl : w.heap.size ≤ lo) : Rws w W R := ⟨fun i r hi => own_lower (h.own i r hi) hl, h.far, hb⟩
/-- a list of edits in a stretch -/
structure Ls (lo hi : Nat) (W : World) (v : Value) (F : List Er) : Prop where
  rs : Rs lo hi W (rowF v F)
  bnd : ∀ r ∈ F, r.o ≤ 140737488355328 ∧ r.n ≤ 140737488355328
theorem Ls.of {w W : World} {v : Value} {F : List Er} (h : Lst w W v F) : Ls w.heap.size W.heap.size W v F := ⟨Rs.of h.rws, h.bnd⟩
theorem Ls.keep {lo hi : Nat} {W W' : World} {v : Value} {F : List Er} (h : Ls lo hi W v F) (hb : Below W.heap.size W W') : Ls lo hi W' v F := ⟨h.rs.keep hb, h.bnd⟩
theorem Ls.kept {lo hi a b : Nat} {W W' : World} {v : Value} {F : List Er} (h : Ls lo hi W v F) (hk : Kept a b W W') (hd : b ≤ lo ∨ hi ≤ a) : Ls lo hi W' v F := ⟨h.rs.kept hk hd, h.bnd⟩
theorem Ls.ez {lo hi n c : Nat} {W : World} {ao : Option Addr} {F : List Er} (h : Ls lo hi W (.slice ao n c) F) : Edz W ao F := by
  have ho := h.rs.own 0 _ rfl
  obtain ⟨a', c', e, hE, -⟩ := own_edr ho
  have e' : Value.slice ao n c = .slice a' F.length c' := e
  simp only [Value.slice.injEq] at e'
  obtain ⟨rfl, -, -⟩ := e'
  exact ⟨hE, fun k r hk => by
    obtain ⟨h1, h2⟩ := rowF_at (v := .slice ao n c) hk
    have b := h.bnd r (List.mem_of_getElem? hk)
    exact ⟨own_tx' (h.rs.own _ _ h1) b.1, own_tx' (h.rs.own _ _ h2) b.2, b.1, b.2⟩⟩
/-- edits that may be written over -/
theorem Ls.sp {lo hi hi' : Nat} {w W : World} {v : Value} {F : List Er} (h : Ls lo hi W v F) (hb : Below w.heap.size w W) (hl : w.heap.size ≤ lo) (hh : hi ≤ hi') : Sp w hi' W W (rowF v F) ∧ Bnd 0 F :=
  ⟨⟨h.rs.rws hb hl, Kept.refl _ _ _, fun i x hi g hg => .inl (by have := h.rs.up i x hi g hg; omega)⟩, fun k r _ hk => h.bnd r (List.mem_of_getElem? hk)⟩
/-- copied edits in a stretch -/
structure Ms (lo hi : Nat) (W : World) (g c : Nat) (F : List Er) : Prop where
  rs : Rs lo hi W (⟨38, 3, .slice (some ⟨g, 0, none⟩) (F.length + 2) c, F.length + 2, ecs F ++ ecs mkE⟩ :: rowsM F)
  bnd : ∀ r ∈ F, r.o ≤ 140737488355328 ∧ r.n ≤ 140737488355328
theorem Ms.of {w W : World} {g c : Nat} {F : List Er} (h : Mst w W (.slice (some ⟨g, 0, none⟩) (F.length + 2) c) mkE F) : Ms w.heap.size W.heap.size W g c F := ⟨Rs.of h.rws, h.bnd⟩
theorem Ms.keep {lo hi g c : Nat} {W W' : World} {F : List Er} (h : Ms lo hi W g c F) (hb : Below W.heap.size W W') : Ms lo hi W' g c F := ⟨h.rs.keep hb, h.bnd⟩
theorem Ms.kept {lo hi a b g c : Nat} {W W' : World} {F : List Er} (h : Ms lo hi W g c F) (hk : Kept a b W W') (hd : b ≤ lo ∨ hi ≤ a) : Ms lo hi W' g c F := ⟨h.rs.kept hk hd, h.bnd⟩
theorem Ms.mst {lo hi g c : Nat} {w W : World} {F : List Er} (h : Ms lo hi W g c F) (hb : Below w.heap.size w W) (hl : w.heap.size ≤ lo) : Mst w W (.slice (some ⟨g, 0, none⟩) (F.length + 2) c) mkE F := ⟨h.rs.rws hb hl, h.bnd⟩
theorem Ms.ez {lo hi g c : Nat} {w W : World} {F : List Er} (h : Ms lo hi W g c F) (hb : Below w.heap.size w W) (hl : w.heap.size ≤ lo) : Edz W (some ⟨g, 0, none⟩) F := by
  have h2 : Lst w W (.slice (some ⟨g, 0, none⟩) F.length c) F := Mst.lst (T := mkE) (h.mst hb hl)
  exact (Ls.of h2).ez
theorem Ms.up {lo hi g c : Nat} {W : World} {F : List Er} (h : Ms lo hi W g c F) : ∀ (i : Nat) (x : Rw), (rowF (.slice (some ⟨g, 0, none⟩) F.length c) F)[i]? = some x → ∀ k, x.v.ownBlock = some k → k < hi := fun i x hx k hk => by
  cases i with
  | zero => simp [rowF] at hx; subst hx; exact h.rs.up 0 _ rfl k hk
  | succ i =>
    have hx' : (rowsE F)[i]? = some x := hx
    obtain ⟨j, r, hr, ⟨rfl, rfl⟩ | ⟨rfl, rfl⟩⟩ := rowsE_in hx'
    · exact h.rs.up (j * 2 + 1) _ (rowsM_at hr).1 k (by rw [← hk]; exact blk_of _ _ _)
    · exact h.rs.up (j * 2 + 1 + 1) _ (rowsM_at hr).2 k (by rw [← hk]; exact blk_of _ _ _)
theorem Ms.sp {lo hi g c : Nat} {w W : World} {F : List Er} (h : Ms lo hi W g c F) (hb : Below w.heap.size w W) (hl : w.heap.size ≤ lo) : Sp w hi W W (rowF (.slice (some ⟨g, 0, none⟩) F.length c) F) ∧ Bnd 0 F := by
  have h2 : Lst w W (.slice (some ⟨g, 0, none⟩) F.length c) F := Mst.lst (T := mkE) (h.mst hb hl)
  exact ⟨⟨h2.rws, Kept.refl _ _ _, fun i x hi g hg => .inl (h.up i x hi g hg)⟩, fun k r _ hk => h.bnd r (List.mem_of_getElem? hk)⟩
/-- a row of bytes in a stretch -/
structure Bs (lo hi : Nat) (W : World) (v : Value) (n : Nat) (l : List UInt8) : Prop where
  own : W.ownsRow lo 5 1 v n (bv l)
  up : ∀ g, v.ownBlock = some g → g < hi
theorem Bs.of {w W : World} {v : Value} {n : Nat} {l : List UInt8} (h : W.ownsRow w.heap.size 5 1 v n (bv l)) : Bs w.heap.size W.heap.size W v n l := ⟨h, fun g hg => (h.lt g hg).2⟩
theorem Bs.keep {lo hi n : Nat} {W W' : World} {v : Value} {l : List UInt8} (h : Bs lo hi W v n l) (hb : Below W.heap.size W W') : Bs lo hi W' v n l := ⟨own_keep h.own hb, h.up⟩
theorem Bs.kept {lo hi a b n : Nat} {W W' : World} {v : Value} {l : List UInt8} (h : Bs lo hi W v n l) (hk : Kept a b W W') (hd : b ≤ lo ∨ hi ≤ a) : Bs lo hi W' v n l :=
  ⟨own_same h.own (fun k h1 h2 => hk.block k h2 (by have := (h.own.lt k h1).1; have := h.up k h1; omega)), h.up⟩
theorem Bs.tx {lo hi n c : Nat} {W : World} {ao : Option Addr} {l : List UInt8} (h : Bs lo hi W (.slice ao n c) n l) (hb : n ≤ 140737488355328) : Tx W ao n c l := own_tx' h.own hb
/-- a byte more is stored -/
theorem Bs.set {lo hi a b g n c j : Nat} {A W : World} {l : List UInt8} (h : Bs lo hi W (.slice (some ⟨g, 0, none⟩) n c) n l) (x : UInt8) (hk : Kept a b A W) (h1 : a ≤ lo) (h2 : hi ≤ b) : Bs lo hi (W.setCell ⟨g, j, none⟩ (.int .u8 (x.toNat : Int))) (.slice (some ⟨g, 0, none⟩) n c) n (l.set j x) ∧ Kept a b A (W.setCell ⟨g, j, none⟩ (.int .u8 (x.toNat : Int))) := by
  obtain ⟨e1, e2⟩ := h.own.stored j (.int .u8 (x.toNat : Int))
  rw [bv_set] at e1
  refine ⟨⟨e1, h.up⟩, hk.grown e2 fun g' hg => ?_⟩
  have := (h.own.lt g' hg).1
  have := h.up g' hg
  exact ⟨by omega, .inl (by omega)⟩
/-- what Apply gives, either way -/
def apU (T : List UInt8) (D : List Ed) : List UInt8 := (app T D).getD []
def apE (T : List UInt8) (D : List Ed) : Int := if (app T D).isSome then 0 else 170
def TxQ (U : List UInt8) (z : Int) (w : World) (e : Ending) (w' : World) : Prop := ∃ v, e = .returned (.tuple #[v, .int .i64 z]) ∧ w'.ownsRow w.heap.size 5 1 v U.length (bv U) ∧ Below w.heap.size w w'
theorem apply_q (ao : Option Addr) (n c : Nat) (T : List UInt8) (eo : Option Addr) (en ec : Nat) (E : List Er) (w : World) (hT : Hid (Tx w ao n c T)) (hb : n ≤ 140737488355328) (HE : Hid (Edz w eo E)) (hn : E.length = en) (heb : en ≤ 140737488355328) {D : List Ed} (hD : E.map Er.d = D) (HM : Mod T D) : Calls Try.prog 13 #[.slice ao n c, .slice eo en ec] w fun e w' => TxQ (apU T D) (apE T D) w e w' := by
  subst hD
  cases hz : app T (E.map Er.d) with
  | none =>
    refine (apply_none ao n c T eo en ec E w hT hb HE hn heb HM hz).mono ?_
    rintro e w' ⟨rfl, h2⟩
    exact ⟨.slice none 0 0, by unfold apE; rw [hz]; rfl, by unfold apU; rw [hz]; exact ⟨rfl, .inl ⟨rfl, rfl⟩⟩, h2⟩
  | some U =>
    refine (apply_some ao n c T eo en ec E w hT hb HE hn heb HM hz).mono ?_
    rintro e w' ⟨v, rfl, h1, h2⟩
    exact ⟨v, by unfold apE; rw [hz]; rfl, by unfold apU; rw [hz]; exact h1, h2⟩
theorem rapply_q (ao : Option Addr) (n c : Nat) (T : List UInt8) (eo : Option Addr) (en ec : Nat) (E : List Er) (w : World) (hT : Hid (Tx w ao n c T)) (hb : n ≤ 140737488355328) (HE : Hid (Edz w eo E)) (hn : E.length = en) (heb : en ≤ 140737488355328) {D : List Ed} (hD : E.map Er.d = D) (HM : Mod T D) : Calls Try.prog 12 #[.slice ao n c, .slice eo en ec] w fun e w' => TxQ (apU T D) (apE T D) w e w' := by
  subst hD
  cases hz : app T (E.map Er.d) with
  | none =>
    refine (rapply_none ao n c T eo en ec E w hT hb HE hn heb HM hz).mono ?_
    rintro e w' ⟨rfl, h2⟩
    exact ⟨.slice none 0 0, by unfold apE; rw [hz]; rfl, by unfold apU; rw [hz]; exact ⟨rfl, .inl ⟨rfl, rfl⟩⟩, h2⟩
  | some U =>
    refine (rapply_some ao n c T eo en ec E w hT hb HE hn heb HM hz).mono ?_
    rintro e w' ⟨v, rfl, h1, h2⟩
    exact ⟨v, by unfold apE; rw [hz]; rfl, by unfold apU; rw [hz]; exact h1, h2⟩
theorem apU_le {T : List UInt8} {D : List Ed} (h : Mod T D) : (apU T D).length ≤ 140737488355328 := by
  unfold apU
  cases hz : app T D with
  | none => simp
  | some U => exact h D.length U (by rw [List.take_length]; exact hz)
theorem mod_small {T : List UInt8} {D : List Ed} {n en : Nat} (hT : T.length = n) (hD : D.length = en) (hn : n ≤ 140737488355328) (h : n + nsum D = 0 ∨ en * (n + nsum D) ≤ 134217728) : Mod T D := by
  rcases Nat.eq_zero_or_pos en with e | e
  · have : D = [] := List.eq_nil_of_length_eq_zero (by omega)
    subst this
    intro k U hU
    rw [List.take_nil] at hU
    have : U = T := (Option.some.inj hU).symm
    rw [this]; omega
  · refine mod_of ?_
    rcases h with h | h
    · omega
    · have : n + nsum D ≤ en * (n + nsum D) := Nat.le_mul_of_pos_left _ e
      omega
end Go.Proofs.Ythklmdnamkjgmaa
