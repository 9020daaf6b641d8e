/- bank.Put: facts for the way on. -/
import Derived.Test.YtienamngmalkaaaPut0
import Derived.Deep.CutRange
import Derived.LaidEqlPtr
namespace Go.Proofs.Ytienamngmalkaaa
open Go.RowKit

set_option maxRecDepth 8000
/-- behind the looks: the content that is to be put is boxed -/
structure Pu (w W : World) (L : List Rg) (d : Ct) : Prop where
  ex : ∃ a n c, Bx w W L d.s d.l a n c ∧ Tx W a n c d.t
theorem Bx.set1 {w W : World} {L : List Rg} {s l : Bool} {a : Option Addr} {n c : Nat} (h : Bx w W L s l a n c) : Bx w (W.setCell ⟨w.heap.size + 1, 0, none⟩ (.bool true)) L true l a n c :=
  ⟨h.bel.setCell (by simp) _, h.b0.off (by omega) _, h.b1.set (j := 0) (.bool true), h.b2.off (by omega) _⟩
theorem Bx.setr {w W : World} {L : List Rg} {s l : Bool} {a : Option Addr} {n c : Nat} (h : Bx w W L s l a n c) (s' l' : Bool) (a' : Option Addr) (n' c' : Nat) :
    Bx w (((W.setCell ⟨w.heap.size + 1, 0, none⟩ (.bool s')).setCell ⟨w.heap.size + 1, 1, none⟩ (.bool l')).setCell ⟨w.heap.size + 1, 2, none⟩ (.slice a' n' c')) L s' l' a' n' c' :=
  ⟨((h.bel.setCell (by simp) _).setCell (by simp) _).setCell (by simp) _, ((h.b0.off (by omega) _).off (by omega) _).off (by omega) _, ((h.b1.set (j := 0) (.bool s')).set (j := 1) (.bool l')).set (j := 2) (.slice a' n' c'), ((h.b2.off (by omega) _).off (by omega) _).off (by omega) _⟩
theorem Bx.drew {w W : World} {L : List Rg} {s l : Bool} {a : Option Addr} {n c : Nat} (h : Bx w W L s l a n c) : Bx w W.drew L s l a n c := h.keep (Below.refl _ _).drew
/-- what Put answers, the register's content given -/
def putQ (P : List Ct) (k : Nat) (how : Int) (d : Ct) : List Ct × Int := if 65536 < d.t.length then (zP, 1) else (((if k = 0 then keepL P how d else P).set k d).set 0 d, 0)
theorem rl_no8 (L : List Rg) : ∀ v ∈ rl L, ∀ z : Int, v ≠ .int .u8 z := by
  intro v hv z e
  subst e
  obtain ⟨r, _, hr⟩ := List.mem_flatMap.1 hv
  simp [Rg.cs] at hr
/-- a text is not among registers -/
theorem Tx.off_bk {W W' : World} {a : Option Addr} {n c B e : Nat} {t : List UInt8} {L : List Rg} (h : Tx W a n c t) (hB : Blk W B e (bk L)) (hg : W.grownBy W' (some B)) : Tx W' a n c t := by
  refine ⟨h.len, h.cap, h.big, h.nil, fun b hb j hj => ?_⟩
  have h1 := h.cells b hb j hj
  have hlt := lt_of_cell h1
  have hne : (b.add j).block ≠ B := fun e9 => by
    have h2 := h1
    have hs := World.cell?_spot h1
    have e3 : b.add j = ⟨B, (b.add j).off, Option.none⟩ := by
      cases hq : b.add j with
      | mk bl of sp => rw [hq] at e9 hs; simp at e9 hs; simp [e9, hs]
    rw [e3, cell_of_row W B _ _ e (0, 0) hB] at h2
    have hm : (Value.int .u8 ((at8 t j).toNat : Int)) ∈ rl L := by
      have := Array.getElem?_eq_some_iff.1 h2
      obtain ⟨h3, h4⟩ := this
      rw [← h4]
      simp [bk]
    exact rl_no8 L _ hm _ rfl
  rw [World.cell?_of_block (hg.block _ hlt (by simpa using hne))]
  exact h1
theorem Rd.setk {W : World} {L : List Rg} {P : List Ct} (h : Rdb W L P) (k : Nat) {r : Rg} {d : Ct} (hr : Rd W r d) : Rdb W (L.set k r) (P.set k d) := by
  refine ⟨by simp [h.1], by simp [h.2.1], fun i x y hx hy => ?_⟩
  rcases set_at hx with ⟨hne, hx⟩ | ⟨e, rfl⟩
  · rcases set_at hy with ⟨_, hy⟩ | ⟨e2, rfl⟩
    · exact h.2.2 i x y hx hy
    · omega
  · rcases set_at hy with ⟨hne, hy⟩ | ⟨e2, rfl⟩
    · omega
    · exact hr
theorem Rdb.off_bk {W W' : World} {B e : Nat} {L M : List Rg} {P : List Ct} (h : Rdb W L P) (hB : Blk W B e (bk M)) (hg : W.grownBy W' (some B)) : Rdb W' L P :=
  ⟨h.1, h.2.1, fun k r c h1 h2 => ⟨(h.2.2 k r c h1 h2).s, (h.2.2 k r c h1 h2).l, (h.2.2 k r c h1 h2).t.off_bk hB hg, (h.2.2 k r c h1 h2).n⟩⟩
theorem peq (w : World) (a : Addr) : (binOp .eql 58 (.pointer (some a)) (.pointer (some a))).run Try.prog w = .ok (.bool true) w := by
  cases hq : Try.prog.info? 24 with
  | none => have := info24; rw [hq] at this; cases this
  | some i => exact run_eql_ptr_same w a Try.underlying58 hq
theorem pne {w : World} {a b : Addr} {ca cb : Array Value} {ta tb : TypeId} (hne : a ≠ b) (ha : w.heap[a.block]? = some (.cells ca ta (0, 0))) (hb : w.heap[b.block]? = some (.cells cb tb (0, 0))) : (binOp .eql 58 (.pointer (some a)) (.pointer (some b))).run Try.prog w = .ok (.bool false) w := by
  cases hq : Try.prog.info? 24 with
  | none => have := info24; rw [hq] at this; cases this
  | some i => exact run_eql_ptr_other w Try.underlying58 hq (by have := info24; rw [hq] at this; simp at this; omega) hne ha hb
theorem Rdb.push {W : World} {L : List Rg} {P : List Ct} (h : Rdb W L P) : Rdb W (pushL L) (pushL P) :=
  ⟨pushL_len h.1, pushL_len h.2.1, fun k r c h1 h2 => by rw [pushL_at h.1] at h1; rw [pushL_at h.2.1] at h2; exact h.2.2 _ _ _ h1 h2⟩
theorem Rdb.kept {W : World} {L : List Rg} {P : List Ct} (h : Rdb W L P) (how : Int) {r : Rg} {d : Ct} (hr : Rd W r d) : Rdb W (keepL L how r) (keepL P how d) := by
  unfold keepL
  split
  · exact Rd.setk h.push 2 hr
  · split
    · exact Rd.setk h 1 hr
    · exact h
theorem blk_one {W : World} {B e : Nat} {s l : Bool} {a : Option Addr} {n c : Nat} (h : Blk W B e #[.bool s, .bool l, .slice a n c]) : Blk W B e (bk [⟨s, l, a, n, c⟩]) := h
theorem New.fin {w W V : World} {N : List Rg} {P : List Ct} {B : Nat} (h : New W V N P) (hw : Below w.heap.size w W) (hB : w.heap.size ≤ B) (hB2 : B < W.heap.size) : New w (put28 V B N) N P := by
  have hz : Rwz W.heap.size V (rows N P) := ⟨h.own.own, h.own.far, h.own.bel.size⟩
  exact ⟨h.len, h.fl, (hz.put28 hB2 N).rws hw.size (below_put28 (bT hw h.own.bel) hB N)⟩
end Go.Proofs.Ytienamngmalkaaa
