/- The reference's things in memory: 257 cells each. -/
import Derived.Test.YtimbnbkgdbhaeaaRone
namespace Go.Proofs.Ytimbnbkgdbhaeaa
open Go.RowKit
/-- a thing's cells -/
def tvl (k : Nat) (f : Nat → Bool) : List Value := .int .i64 (k : Int) :: svl f
def tv (k : Nat) (f : Nat → Bool) : Array Value := (tvl k f).toArray
theorem b76 (f : Nat → Bool) (w : World) : (Instr.build 76 #[(1, .agg (sv f))]).run Try.prog w = .ok (.agg (tv 0 f)) w := by kernel_rfl
theorem b76k (w : World) : (Instr.build 76 #[(0, .int .i64 2)]).run Try.prog w = .ok (.agg (tv 2 fun _ => false)) w := by kernel_rfl
theorem bs54 (k : Nat) (f : Nat → Bool) (w : World) : (Instr.buildSlice 54 1 #[(0, .agg (tv k f))]).run Try.prog w = .ok (.slice (some ⟨w.heap.size, 0, none⟩) 1 1) (w.alloc (.cells (tv k f) 76)) := by kernel_rfl
theorem tvl_len (k : Nat) (f : Nat → Bool) : (tvl k f).length = 257 := by simp [tvl, svl_len]
theorem tvl_one (k : Nat) (f : Nat → Bool) : ∀ v ∈ tvl k f, v.oneCell' = true := by
  intro v hv
  rcases List.mem_cons.1 hv with rfl | h
  · rfl
  · exact svl_one f v h
theorem info76s : (Try.prog.info? 76).map (·.size) = some 257 := by kernel_rfl
theorem info76 : (Try.prog.info? 76).map (fun i => (i.zero, i.size, i.bytes)) = some (some (.agg (tv 0 fun _ => false)), 257, 264) := by kernel_rfl
theorem z76 (w : World) : (zeroValue 76).run Try.prog w = .ok (.agg (tv 0 fun _ => false)) w := by
  have h := info76
  cases hq : Try.prog.info? 76 with
  | none => rw [hq] at h; cases h
  | some i =>
    rw [hq] at h
    simp at h
    simp [zeroValue, typeInfo, hq, h.1]
section
variable {ops : Array Oper} {rest : List Oper} {op : Oper} {a : Act} {w : World} {Q : Exit → Act → World → Prop} {f g : Nat → Bool} {B k : Nat}
theorem wl_build76 (x : Operand) (hgd : op.guard = none) (ho : op.op = .build 76 #[(1, x)]) (hx : a.eval x = .agg (sv f)) (hr : wpList Try.prog ops Q rest (a.put op.dst (.agg (tv 0 f))) w) : wpList Try.prog ops Q (op :: rest) a w := by
  refine wpList_plain hgd fun K hK => ?_
  unfold Oper.wp
  simp only [execOp, ho, List.map_toArray, List.map_cons, List.map_nil, hx, Sem.run_bind, b76, Result.andThen_ok]
  exact hK _ _ hr
theorem wl_build76k (hgd : op.guard = none) (ho : op.op = .build 76 #[(0, .const (.int .i64 2))]) (hr : wpList Try.prog ops Q rest (a.put op.dst (.agg (tv 2 fun _ => false))) w) : wpList Try.prog ops Q (op :: rest) a w := by
  refine wpList_plain hgd fun K hK => ?_
  have hx : a.eval (.const (.int .i64 2)) = .int .i64 2 := rfl
  unfold Oper.wp
  simp only [execOp, ho, List.map_toArray, List.map_cons, List.map_nil, hx, Sem.run_bind, b76k, Result.andThen_ok]
  exact hK _ _ hr
theorem wl_bs54 (x : Operand) (hgd : op.guard = none) (ho : op.op = .buildSlice 54 1 #[(0, x)]) (hx : a.eval x = .agg (tv k f)) (hr : wpList Try.prog ops Q rest (a.put op.dst (.slice (some ⟨w.heap.size, 0, none⟩) 1 1)) (w.alloc (.cells (tv k f) 76))) : wpList Try.prog ops Q (op :: rest) a w := by
  refine wpList_plain hgd fun K hK => ?_
  unfold Oper.wp
  simp only [execOp, ho, List.map_toArray, List.map_cons, List.map_nil, hx, Sem.run_bind, bs54, Result.andThen_ok]
  exact hK _ _ hr
theorem wl_load76 (x : Operand) (hgd : op.guard = none) (ho : op.op = .load 76 x) (hx : a.eval x = .pointer (some ⟨B, 0, none⟩)) (h : Blk w B 76 (tv k f)) (hr : wpList Try.prog ops Q rest (a.put op.dst (.agg (tv k f))) w) : wpList Try.prog ops Q (op :: rest) a w :=
  wpList_load_mid hgd 76 x ho B 0 hx (tvl k f) _ (blk_range (pre := []) (mid := tvl k f) (post := []) (by simpa [tv] using h)) Try.underlying76 rfl (by rw [info76s, tvl_len]) hr
/-- a thing stored over another -/
def put76 (w : World) (B k : Nat) (f : Nat → Bool) : World := w.setCells B 0 (tvl k f)
theorem wl_store76 {k' : Nat} (x y : Operand) (hgd : op.guard = none) (ho : op.op = .store 76 x y) (hx : a.eval x = .pointer (some ⟨B, 0, none⟩)) (hy : a.eval y = .agg (tv k f)) (h : Blk w B 76 (tv k' g)) (hr : wpList Try.prog ops Q rest (a.put op.dst undef) (put76 w B k f)) : wpList Try.prog ops Q (op :: rest) a w := by
  have ht : w.there B 0 (tv k f).size := by
    have := blk_there (pre := []) (mid := tvl k' g) (post := []) (by simpa [tv] using h)
    simpa [tv, tvl_len] using this
  exact wpList_store_mid hgd 76 x y ho B 0 (tv k f) hx hy ht (by rw [info76s]; simp [tv, tvl_len]) (all_oneCell_toArray (tvl_one k f)) (by simpa [put76, tv] using hr)
theorem Blk.put76 {k' : Nat} (h : Blk w B 76 (tv k' g)) (k : Nat) (f : Nat → Bool) : Blk (put76 w B k f) B 76 (tv k f) := by
  have := blk_setCells (tvl k f) [] (tvl k' g) [] (by simp [tvl_len]) (by simpa [tv] using h)
  simpa [tv, Go.Proofs.Ytimbnbkgdbhaeaa.put76] using this
/-- a thing's set stored -/
def puts76 (w : World) (B : Nat) (f : Nat → Bool) : World := w.setCells B 1 (svl f)
theorem wl_stores76 (x y : Operand) (hgd : op.guard = none) (ho : op.op = .store 74 x y) (hx : a.eval x = .pointer (some ⟨B, 1, none⟩)) (hy : a.eval y = .agg (sv f)) (h : Blk w B 76 (tv k g)) (hr : wpList Try.prog ops Q rest (a.put op.dst undef) (puts76 w B f)) : wpList Try.prog ops Q (op :: rest) a w := by
  have ht : w.there B 1 (sv f).size := by
    have := blk_there (pre := [.int .i64 (k : Int)]) (mid := svl g) (post := []) (by simpa [tv, tvl] using h)
    simpa [sv, svl_len] using this
  exact wpList_store_mid hgd 74 x y ho B 1 (sv f) hx hy ht (by rw [info74]; simp [sv, svl_len]) (all_oneCell_toArray (svl_one f)) (by simpa [puts76, sv] using hr)
theorem Blk.puts76 (h : Blk w B 76 (tv k g)) (f : Nat → Bool) : Blk (puts76 w B f) B 76 (tv k f) := by
  have := blk_setCells (svl f) [.int .i64 (k : Int)] (svl g) [] (by simp [svl_len]) (by simpa [tv, tvl] using h)
  simpa [tv, tvl, Go.Proofs.Ytimbnbkgdbhaeaa.puts76] using this
theorem Blk.kind76 (h : Blk w B 76 (tv k g)) (k' : Nat) : Blk (w.setCell ⟨B, 0, none⟩ (.int .i64 (k' : Int))) B 76 (tv k' g) := by
  have := h.set (j := 0) (.int .i64 (k' : Int))
  simpa [tv, tvl] using this
theorem Blk.k76 (h : Blk w B 76 (tv k g)) : w.cell? ⟨B, 0, none⟩ = some (.int .i64 (k : Int)) := h.cell (by simp [tv, tvl])
end
/-- the reference's list -/
def tvs (l : List Th) : List Value := l.flatMap fun t => tvl t.k t.s
theorem tvs_len (l : List Th) : (tvs l).length = l.length * 257 := by
  induction l with
  | nil => rfl
  | cons t r ih => simp only [tvs, List.flatMap_cons, List.length_append, tvl_len, List.length_cons] at ih ⊢; omega
theorem tvs_snoc (l : List Th) (t : Th) : tvs (l ++ [t]) = tvs l ++ tvl t.k t.s := by simp [tvs]
theorem own_setCells {base e size n B : Nat} {v : Value} {xs : List Value} (hne : v.ownBlock ≠ some B) : ∀ (vs : List Value) (o : Nat) {W : World}, W.ownsRow base e size v n xs → (W.setCells B o vs).ownsRow base e size v n xs
  | [], _, _, h => h
  | _ :: r, o, _, h => own_setCells hne r (o + 1) (own_setCell h hne)
/-- the same to every match: the kinds, and the sets of singles -/
structure Req (l rl : List Th) : Prop where
  len : rl.length = l.length
  k : ∀ j, (th rl j).k = (th l j).k
  s : ∀ j, (th l j).k ≤ 1 → (th rl j).s = (th l j).s
theorem Req.nil : Req [] [] := ⟨rfl, fun _ => rfl, fun _ _ => rfl⟩
theorem th_snoc (l : List Th) (t : Th) (j : Nat) : th (l ++ [t]) j = if j < l.length then th l j else if j = l.length then t else ⟨9, fun _ => false⟩ := by
  unfold th
  by_cases h : j < l.length
  · rw [if_pos h]; simp [List.getD, List.getElem?_append_left h]
  · rw [if_neg h]
    by_cases h2 : j = l.length
    · subst h2; simp [List.getD]
    · rw [if_neg h2]; simp [List.getD, List.getElem?_eq_none (show (l ++ [t]).length ≤ j by simp; omega)]
theorem Req.snoc {l rl : List Th} (h : Req l rl) {t rt : Th} (hk : rt.k = t.k) (hs : t.k ≤ 1 → rt.s = t.s) : Req (l ++ [t]) (rl ++ [rt]) := by
  refine ⟨by simp [h.len], fun j => ?_, fun j => ?_⟩
  · rw [th_snoc, th_snoc, h.len]; split
    · exact h.k j
    · split
      · exact hk
      · rfl
  · rw [th_snoc, th_snoc, h.len]; split
    · exact h.s j
    · split
      · exact hs
      · intro _; rfl
theorem Req.star {l rl : List Th} (h : Req l rl) (hl : l ≠ []) (hk : (th l (l.length - 1)).k = 0) : Req (l.dropLast ++ [many (th l (l.length - 1)).s]) (rl.dropLast ++ [many (th rl (l.length - 1)).s]) := by
  have hp := List.length_pos_iff.2 hl
  have hd : ∀ (m : List Th) (j : Nat), j < m.length - 1 → th m.dropLast j = th m j := by
    intro m j hj
    unfold th
    have hj2 : j < m.length := by omega
    simp [List.getD, hj, hj2]
  refine Req.snoc ⟨by simp [h.len], fun j => ?_, fun j => ?_⟩ rfl (fun _ => by unfold many; exact h.s _ (by omega))
  · by_cases hj : j < l.length - 1
    · rw [hd l j hj, hd rl j (by rw [h.len]; exact hj)]; exact h.k j
    · unfold th; simp [List.getD, List.getElem?_eq_none (show l.dropLast.length ≤ j by simp; omega), List.getElem?_eq_none (show rl.dropLast.length ≤ j by simp [h.len]; omega)]
  · by_cases hj : j < l.length - 1
    · rw [hd l j hj, hd rl j (by rw [h.len]; exact hj)]; exact h.s j
    · unfold th; simp [List.getD, List.getElem?_eq_none (show l.dropLast.length ≤ j by simp; omega), List.getElem?_eq_none (show rl.dropLast.length ≤ j by simp [h.len]; omega)]
end Go.Proofs.Ytimbnbkgdbhaeaa
