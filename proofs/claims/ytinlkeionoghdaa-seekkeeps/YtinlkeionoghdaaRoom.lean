/- For SeekKeeps: a copy of the text with two bytes behind it, made in a region that draws. -/
import Derived.Test.YtinlkeionoghdaaLent
import Derived.Test.YtinlkeionoghdaaOnW
import Derived.Deep.RegionHeld3
import Derived.BigQuiet
import Derived.Deep.QuietTactic
namespace Go.Proofs.Ytinlkeionoghdaa
open Go.RowKit

/-- append in a region that draws -/
theorem step_app {w : World} {ops : Array Oper} {o : Oper} {a : Act} {K : Act → World → Prop} {Q : Exit → Act → World → Prop} {E : Prop} (hgd : o.guard = none) (s x : Operand) (t : Nat)
    (ho : o.op = .call { callee := .builtin .append, args := #[s, x], argTypes := #[t, t] })
    (base e : Nat) (i : TypeInfo) (z : Value) (size bytes : Nat) (ht : Try.prog.underlying t = some (.slice e)) (hi : Try.prog.info? e = some i) (hz : i.zero = some z) (hsize : i.size = size) (hby : i.bytes = bytes) (hzs : z.cells.size = size) (hsz : 0 < size)
    (v : Value) (n : Nat) (xs : List Value) (hs : a.eval s = v) (hown : w.ownsRow base e size v n xs)
    (u : Value) (m : Nat) (news : List Value) (hx : a.eval x = u) (hsrc : Srv w u m news) (hl : news.length = m * size)
    (h1 : ∀ u ∈ news, u.oneCell' = true) (h63 : n + m ≤ maxLen) (hb : (n + m) * bytes ≤ 140737488355328) (hbase : base ≤ w.heap.size)
    (h : ∀ v' w', w'.ownsRow base e size v' (n + m) (xs ++ news) → w.grownBy w' v.ownBlock → (v'.ownBlock = v.ownBlock ∨ ∃ q, v'.ownBlock = some q ∧ w.heap.size ≤ q) → K (a.put o.dst v') w') :
    if Region.wanted o (yielded ops a.tmps) = true then Oper.wp Try.prog o a w K Q else E := by
  have hw : Region.wanted o (yielded ops a.tmps) = true := by simp [Region.wanted, hgd]
  rw [if_pos hw]
  rcases hsrc with ⟨hu, h0, h2⟩ | ⟨ad, c, hu, hcell⟩
  · subst hu h0 h2
    have hrun := run_append_owned_none (P := Try.prog) (w := w) base t o.type e i size ht hi v n xs hown
    unfold Oper.wp
    simp [execOp, ho, resolve, invoke, builtin, hs, hx, hrun, Result.andThen]
    exact h v w (by simpa using hown) ⟨rfl, rfl, rfl, Nat.le_refl _, fun _ _ _ => rfl⟩ (.inl rfl)
  · subst hu
    obtain ⟨v', w', hr, h2, h3, h4, h5⟩ := run_append_own_at (P := Try.prog) w base t o.type e i z size bytes ht hi hz hsize hby hzs hsz v n xs hown ad m c news hl hcell h1 h63 hb hbase
    unfold Oper.wp execOp
    simp only [ho, resolve, invoke, builtin, Sem.run_bind, Sem.run_pure, Result.andThen_ok, List.map_toArray, List.map_cons, List.map_nil, hs, hx, hr]
    refine h v' w' h2 h3 ?_
    rcases h5 with e | e
    · exact .inl e
    · exact .inr ⟨_, e, Nat.le_refl _⟩
/-- two bytes -/
def two (b : Int) : List Value := [.int .u8 b, .int .u8 b]
theorem two_one (b : Int) : ∀ u ∈ two b, u.oneCell' = true := by intro u hu; simp [two] at hu; rw [hu]; rfl
theorem lit_own (w : World) (base : Nat) (b : Int) (h : base ≤ w.heap.size) : (w.alloc (.cells #[.int .u8 b, .int .u8 b] 5)).ownsRow base 5 1 (.slice (some ⟨w.heap.size, 0, none⟩) 2 2) 2 (two b) := World.ownsRow_lit w #[.int .u8 b, .int .u8 b] 2 h (by decide) rfl
theorem own_drew {w : World} {base e size n : Nat} {v : Value} {xs : List Value} (h : w.ownsRow base e size v n xs) : w.drew.ownsRow base e size v n xs := own_keep h (Below.refl _ _).drew
/-- the copy reads as the text -/
theorem room_tx {w : World} {g cap base n : Nat} {l : List UInt8} {b : Int} (hl : l.length = n) (hb : n ≤ 140737488355328) (h : w.ownsRow base 5 1 (.slice (some ⟨g, 0, none⟩) (n + 2) cap) (n + 2) (bv l ++ two b)) : Tx w (some ⟨g, 0, none⟩) n cap l := by
  obtain ⟨g', cap', hv, hc1, hc2⟩ := own_some h (by omega)
  have hcap : n + 2 ≤ cap := by simp at hv; omega
  refine ⟨hl, by omega, hb, (fun h => by cases h), fun a ha j hj => ?_⟩
  obtain rfl : (⟨g, 0, none⟩ : Addr) = a := by simpa using ha
  rw [add_none, Nat.zero_add, h.cellAt j (by omega), List.getElem?_append_left (by rw [bv_length]; omega)]
  exact bv_at l j (by omega)
theorem room_end {w : World} {g cap base n : Nat} {l : List UInt8} {b : Int} (hl : l.length = n) (h : w.ownsRow base 5 1 (.slice (some ⟨g, 0, none⟩) (n + 2) cap) (n + 2) (bv l ++ two b)) : w.cell? ⟨g, n, none⟩ = some (.int .u8 b) ∧ w.cell? ⟨g, n + 1, none⟩ = some (.int .u8 b) := by
  constructor
  · rw [h.cellAt n (by omega), List.getElem?_append_right (by rw [bv_length]; omega), bv_length, hl, Nat.sub_self]; rfl
  · rw [h.cellAt (n + 1) (by omega), List.getElem?_append_right (by rw [bv_length]; omega), bv_length, hl, show n + 1 - n = 1 from by omega]; rfl
/-- a row of bytes of one's own reads as the text -/
theorem own_tx {w : World} {base n : Nat} {l : List UInt8} {v : Value} (hl : l.length = n) (hb : n ≤ 140737488355328) (h : w.ownsRow base 5 1 v n (bv l)) : ∃ ao c, v = .slice ao n c ∧ Tx w ao n c l := by
  rcases Nat.eq_zero_or_pos n with h0 | h0
  · subst h0
    obtain ⟨ao, c, rfl⟩ := own_shape h
    refine ⟨ao, c, rfl, hl, Nat.zero_le _, hb, fun hn => ?_, fun a _ j hj => by omega⟩
    subst hn
    rcases h.2 with ⟨e, _⟩ | ⟨g, cap, cur, e, _⟩
    · simp at e; exact e
    · simp at e
  · obtain ⟨g, cap, rfl, h1, _⟩ := own_some h h0
    refine ⟨_, cap, rfl, hl, h1, hb, (fun h => by cases h), fun a ha j hj => ?_⟩
    obtain rfl : (⟨g, 0, none⟩ : Addr) = a := by simpa using ha
    rw [add_none, Nat.zero_add, h.cellAt j (by omega)]
    exact bv_at l j (by omega)
theorem conv_drew {W : World} {ao : Option Addr} {n c : Nat} {l : List UInt8} (h : Tx W ao n c l) : ∀ q, (convert 22 9 (.slice ao n c)).run Try.prog (W.drewN q) = .ok (.string ⟨l.toArray⟩) (W.drewN q) := fun _ => conv_tx (h.keep ⟨rfl, rfl, rfl, Nat.le_refl _, fun _ _ => rfl⟩)
/-- all but one block are as they were -/
def Oth (g : Nat) (W W' : World) : Prop := W'.heap.size = W.heap.size ∧ ∀ a : Addr, a.block ≠ g → W'.cell? a = W.cell? a
theorem Oth.refl (g : Nat) (W : World) : Oth g W W := ⟨rfl, fun _ _ => rfl⟩
theorem Oth.set {g : Nat} {W W' : World} (h : Oth g W W') (j : Nat) (u : Value) : Oth g W (W'.setCell ⟨g, j, none⟩ u) := by
  refine ⟨by rw [← h.1]; simp, fun a ha => ?_⟩
  rw [World.cell?_setCell_other _ _ _ _ (by intro e; exact ha (by rw [← e]))]
  exact h.2 a ha
theorem xr (x : UInt8) : bits BinOp.xor IntKind.u8 (x.toNat : Int) 1 = ((x ^^^ 1).toNat : Int) := by
  have h : ∀ k : Fin 256, bits BinOp.xor IntKind.u8 ((UInt8.ofNat k.val).toNat : Int) 1 = (((UInt8.ofNat k.val) ^^^ 1).toNat : Int) := by decide +kernel
  have := h ⟨x.toNat, x.toNat_lt⟩
  simpa using this
/-- a text whose first j bytes are written over -/
def xo (l : List UInt8) (j : Nat) : List UInt8 := (l.take j).map (· ^^^ 1) ++ l.drop j
theorem xo_len (l : List UInt8) (j : Nat) : (xo l j).length = l.length := by simp [xo]; omega
theorem xo_zero (l : List UInt8) : xo l 0 = l := by simp [xo]
theorem xo_at {l : List UInt8} {j : Nat} (h : j < l.length) : at8 (xo l j) j = at8 l j := by
  have e : (xo l j)[j]? = l[j]? := by
    unfold xo
    rw [List.getElem?_append_right (by simp; omega)]
    simp [List.length_take, Nat.min_eq_left (Nat.le_of_lt h)]
  simp only [at8, List.getD, e]
theorem xo_set {l : List UInt8} {j : Nat} (h : j < l.length) : (xo l j).set j (at8 l j ^^^ 1) = xo l (j + 1) := by
  unfold xo
  have hl : ((l.take j).map (· ^^^ 1)).length = j := by simp; omega
  rw [List.set_append_right _ _ (by omega), hl, Nat.sub_self, List.drop_eq_getElem_cons h, List.set_cons_zero, List.take_succ_eq_append_getElem h, List.map_append, at8_eq h, List.append_assoc]
  rfl
theorem bv_set (l : List UInt8) (j : Nat) (x : UInt8) : (bv l).set j (.int .u8 (x.toNat : Int)) = bv (l.set j x) := by
  unfold bv; rw [List.map_set]
end Go.Proofs.Ytinlkeionoghdaa
