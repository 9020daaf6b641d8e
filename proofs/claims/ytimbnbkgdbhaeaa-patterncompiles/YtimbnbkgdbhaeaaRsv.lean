/- The reference's sets: 256 truths in memory; -/
import Derived.Test.YtimbnbkgdbhaeaaAll
import Derived.Deep.MidRow
namespace Go.Proofs.Ytimbnbkgdbhaeaa
open Go.RowKit
/-- a set's truths -/
def svl (f : Nat → Bool) : List Value := (List.range 256).map fun i => Value.bool (f i)
def sv (f : Nat → Bool) : Array Value := (svl f).toArray
theorem svl_len (f : Nat → Bool) : (svl f).length = 256 := by simp [svl]
theorem svl_at (f : Nat → Bool) {j : Nat} (h : j < 256) : (svl f)[j]? = some (.bool (f j)) := by simp [svl, h]
theorem svl_one (f : Nat → Bool) : ∀ v ∈ svl f, v.oneCell' = true := by
  intro v hv; obtain ⟨i, _, rfl⟩ := List.mem_map.1 hv; rfl
theorem svl_set (f : Nat → Bool) {k : Nat} (b : Bool) : (svl f).set k (.bool b) = svl (fun x => if x = k then b else f x) := by
  apply List.ext_getElem
  · simp [svl]
  · intro i h1 h2
    rw [List.getElem_set]
    simp only [svl, List.getElem_map, List.getElem_range]
    by_cases h : k = i
    · rw [if_pos h, if_pos h.symm]
    · rw [if_neg h, if_neg (fun e => h e.symm)]
theorem svl_congr {f g : Nat → Bool} (h : ∀ x, x < 256 → f x = g x) : svl f = svl g := by
  unfold svl; apply List.map_congr_left; intro i hi; rw [h i (List.mem_range.1 hi)]
theorem info74 : (Try.prog.info? 74).map (·.size) = some 256 := by kernel_rfl
theorem z74 (w : World) : (zeroValue 74).run Try.prog w = .ok (.agg (sv fun _ => false)) w := by
  have h : (Try.prog.info? 74).map (·.zero) = some (some (.agg (sv fun _ => false))) := by kernel_rfl
  cases hq : Try.prog.info? 74 with
  | none => rw [hq] at h; cases h
  | some i =>
    rw [hq] at h
    simp at h
    simp [zeroValue, typeInfo, hq, h]
/-- cells stored one behind the other -/
theorem below_setCells {a : World} {n B : Nat} (hb : n ≤ B) : ∀ (vs : List Value) (o : Nat) {W : World}, Below n a W → Below n a (W.setCells B o vs)
  | [], _, _, h => h
  | v :: r, o, _, h => below_setCells hb r (o + 1) (h.setCell hb v)
theorem blk_setCells_off {B B' e : Nat} {cs : Array Value} (hne : B' ≠ B) : ∀ (vs : List Value) (o : Nat) {W : World}, Blk W B' e cs → Blk (W.setCells B o vs) B' e cs
  | [], _, _, h => h
  | v :: r, o, _, h => blk_setCells_off hne r (o + 1) (h.off hne v)
theorem blk_setCells {B e : Nat} : ∀ (vs pre old post : List Value) {W : World}, old.length = vs.length → Blk W B e (pre ++ old ++ post).toArray → Blk (W.setCells B pre.length vs) B e (pre ++ vs ++ post).toArray
  | [], pre, old, post, W, hl, h => by
    have : old = [] := List.eq_nil_of_length_eq_zero hl
    subst this; exact h
  | v :: r, pre, [], post, W, hl, h => by cases hl
  | v :: r, pre, x :: old, post, W, hl, h => by
    have h1 : Blk (W.setCell ⟨B, pre.length, none⟩ v) B e ((pre ++ [v]) ++ old ++ post).toArray := by
      have := h.set (j := pre.length) v
      simpa [List.setIfInBounds_toArray, List.set_append] using this
    have h2 := blk_setCells r (pre ++ [v]) old post (by simpa using hl) h1
    rw [List.length_append] at h2
    simpa [World.setCells] using h2
theorem blk_range {W : World} {B e : Nat} {pre mid post : List Value} (h : Blk W B e (pre ++ mid ++ post).toArray) : W.rangeAt B pre.length mid := by
  intro j v hv
  refine h.cell ?_
  rw [List.getElem?_toArray, List.append_assoc, List.getElem?_append_right (by omega), show pre.length + j - pre.length = j by omega, List.getElem?_append_left (List.getElem?_eq_some_iff.1 hv).1]
  exact hv
theorem blk_there {W : World} {B e : Nat} {pre mid post : List Value} (h : Blk W B e (pre ++ mid ++ post).toArray) : W.there B pre.length mid.length := by
  intro j hj
  refine ⟨?_, h.frozen _⟩
  have := blk_range h j mid[j] (List.getElem?_eq_getElem hj)
  rw [this]; rfl
theorem ld74 {W : World} {B : Nat} {f : Nat → Bool} (h : Blk W B 74 (sv f)) : (Instr.loadAt 74 (.pointer (some ⟨B, 0, none⟩))).run Try.prog W = .ok (.agg (sv f)) W :=
  run_loadAt_mid W B 0 74 (svl f) _ (blk_range (pre := []) (mid := svl f) (post := []) (by simpa [sv] using h)) Try.underlying74 rfl (by rw [info74, svl_len])
theorem lv74 {W : World} {B : Nat} {f : Nat → Bool} (h : Blk W B 74 (sv f)) : (loadVar 74 ⟨B, 0, none⟩).run Try.prog W = .ok (.agg (sv f)) W :=
  run_loadVar_mid W B 0 74 (svl f) _ (blk_range (pre := []) (mid := svl f) (post := []) (by simpa [sv] using h)) Try.underlying74 rfl (by rw [info74, svl_len])
/-- a set stored over another -/
def put74 (W : World) (B : Nat) (f : Nat → Bool) : World := W.setCells B 0 (svl f)
theorem st74 {W : World} {B : Nat} {f g : Nat → Bool} (h : Blk W B 74 (sv g)) : (Instr.storeAt 74 (.pointer (some ⟨B, 0, none⟩)) (.agg (sv f))).run Try.prog W = .ok () (put74 W B f) := by
  have ht : W.there B 0 (sv f).size := by
    have := blk_there (pre := []) (mid := svl g) (post := []) (by simpa [sv] using h)
    simpa [sv, svl_len] using this
  have := run_storeAt_mid W B 0 74 (sv f) ht (by rw [info74]; simp [sv, svl_len]) (all_oneCell_toArray (svl_one f))
  rw [this]; simp [put74, sv]
theorem Blk.put74 {W : World} {B : Nat} {g : Nat → Bool} (h : Blk W B 74 (sv g)) (f : Nat → Bool) : Blk (put74 W B f) B 74 (sv f) := by
  have := blk_setCells (svl f) [] (svl g) [] (by simp [svl_len]) (by simpa [sv] using h)
  simpa [sv, Go.Proofs.Ytimbnbkgdbhaeaa.put74] using this
theorem Blk.set74 {W : World} {B : Nat} {g : Nat → Bool} (h : Blk W B 74 (sv g)) (k : Nat) (b : Bool) : Blk (W.setCell ⟨B, k, none⟩ (.bool b)) B 74 (sv fun x => if x = k then b else g x) := by
  have := h.set (j := k) (.bool b)
  simpa [sv, List.setIfInBounds_toArray, svl_set] using this
theorem Blk.at74 {W : World} {B : Nat} {g : Nat → Bool} (h : Blk W B 74 (sv g)) {k : Nat} (hk : k < 256) : W.cell? ⟨B, k, none⟩ = some (.bool (g k)) := h.cell (by simp [sv, svl_at g hk])

/-- at the walk's operations -/
theorem wl_load74 {ops : Array Oper} {rest : List Oper} {op : Oper} {a : Act} {w : World} {Q : Exit → Act → World → Prop} {f : Nat → Bool} {B : Nat} (x : Operand) (hgd : op.guard = none) (ho : op.op = .load 74 x)
    (hx : a.eval x = .pointer (some ⟨B, 0, none⟩)) (h : Blk w B 74 (sv f)) (hr : wpList Try.prog ops Q rest (a.put op.dst (.agg (sv f))) w) : wpList Try.prog ops Q (op :: rest) a w :=
  wpList_load_mid hgd 74 x ho B 0 hx (svl f) _ (blk_range (pre := []) (mid := svl f) (post := []) (by simpa [sv] using h)) Try.underlying74 rfl (by rw [info74, svl_len]) hr
theorem wl_store74 {ops : Array Oper} {rest : List Oper} {op : Oper} {a : Act} {w : World} {Q : Exit → Act → World → Prop} {f g : Nat → Bool} {B : Nat} (x y : Operand) (hgd : op.guard = none) (ho : op.op = .store 74 x y)
    (hx : a.eval x = .pointer (some ⟨B, 0, none⟩)) (hy : a.eval y = .agg (sv f)) (h : Blk w B 74 (sv g)) (hr : wpList Try.prog ops Q rest (a.put op.dst undef) (put74 w B f)) : wpList Try.prog ops Q (op :: rest) a w := by
  have ht : w.there B 0 (sv f).size := by
    have := blk_there (pre := []) (mid := svl g) (post := []) (by simpa [sv] using h)
    simpa [sv, svl_len] using this
  exact wpList_store_mid hgd 74 x y ho B 0 (sv f) hx hy ht (by rw [info74]; simp [sv, svl_len]) (all_oneCell_toArray (svl_one f)) (by simpa [put74, sv] using hr)
end Go.Proofs.Ytimbnbkgdbhaeaa
