/- The reference's sets: 256 truths in memory; -/
import Derived.Test.YtaakgoojcogbcaaZAll
import Derived.Deep.MidRow
namespace Go.Proofs.Ytaakgoojcogbcaa
open Go.RowKit
/-- a set's truths -/
def svl (f : Nat → Bool) : List Value := (List.range 256).map fun i => Value.bool (f i)
def sv (f : Nat → Bool) : Array Value := (svl f).toArray
theorem svl_len (f : Nat → Bool) : (svl f).length = 256 := by simp [svl]
theorem svl_at (f : Nat → Bool) {j : Nat} (h : j < 256) : (svl f)[j]? = some (.bool (f j)) := by simp [svl, h]
theorem svl_one (f : Nat → Bool) : ∀ v ∈ svl f, v.oneCell' = true := by
  intro v hv; obtain ⟨i, _, rfl⟩ := List.mem_map.1 hv; rfl
theorem svl_set (f : Nat → Bool) {k : Nat} (b : Bool) : (svl f).set k (.bool b) = svl (fun x => if x = k then b else f x) := by
  apply List.ext_getElem
  · simp [svl]
  · intro i h1 h2
    rw [List.getElem_set]
    simp only [svl, List.getElem_map, List.getElem_range]
    by_cases h : k = i
    · rw [if_pos h, if_pos h.symm]
    · rw [if_neg h, if_neg (fun e => h e.symm)]
theorem svl_congr {f g : Nat → Bool} (h : ∀ x, x < 256 → f x = g x) : svl f = svl g := by
  unfold svl; apply List.map_congr_left; intro i hi; rw [h i (List.mem_range.1 hi)]
theorem info74 : (Try.prog.info? 104).map (·.size) = some 256 := by kernel_rfl
theorem z74 (w : World) : (zeroValue 104).run Try.prog w = .ok (.agg (sv fun _ => false)) w := by
  have h : (Try.prog.info? 104).map (·.zero) = some (some (.agg (sv fun _ => false))) := by kernel_rfl
  cases hq : Try.prog.info? 104 with
  | none => rw [hq] at h; cases h
  | some i =>
    rw [hq] at h
    simp at h
    simp [zeroValue, typeInfo, hq, h]
/-- cells stored one behind the other -/
theorem below_setCells {a : World} {n B : Nat} (hb : n ≤ B) : ∀ (vs : List Value) (o : Nat) {W : World}, Below n a W → Below n a (W.setCells B o vs)
  | [], _, _, h => h
  | v :: r, o, _, h => below_setCells hb r (o + 1) (h.setCell hb v)
theorem blk_setCells_off {B B' e : Nat} {cs : Array Value} (hne : B' ≠ B) : ∀ (vs : List Value) (o : Nat) {W : World}, Blk W B' e cs → Blk (W.setCells B o vs) B' e cs
  | [], _, _, h => h
  | v :: r, o, _, h => blk_setCells_off hne r (o + 1) (h.off hne v)
theorem blk_setCells {B e : Nat} : ∀ (vs pre old post : List Value) {W : World}, old.length = vs.length → Blk W B e (pre ++ old ++ post).toArray → Blk (W.setCells B pre.length vs) B e (pre ++ vs ++ post).toArray
  | [], pre, old, post, W, hl, h => by
    have : old = [] := List.eq_nil_of_length_eq_zero hl
    subst this; exact h
  | v :: r, pre, [], post, W, hl, h => by cases hl
  | v :: r, pre, x :: old, post, W, hl, h => by
    have h1 : Blk (W.setCell ⟨B, pre.length, none⟩ v) B e ((pre ++ [v]) ++ old ++ post).toArray := by
      have := h.set (j := pre.length) v
      simpa [List.setIfInBounds_toArray, List.set_append] using this
    have h2 := blk_setCells r (pre ++ [v]) old post (by simpa using hl) h1
    rw [List.length_append] at h2
    simpa [World.setCells] using h2
theorem blk_range {W : World} {B e : Nat} {pre mid post : List Value} (h : Blk W B e (pre ++ mid ++ post).toArray) : W.rangeAt B pre.length mid := by
  intro j v hv
  refine h.cell ?_
  rw [List.getElem?_toArray, List.append_assoc, List.getElem?_append_right (by omega), show pre.length + j - pre.length = j by omega, List.getElem?_append_left (List.getElem?_eq_some_iff.1 hv).1]
  exact hv
theorem blk_there {W : World} {B e : Nat} {pre mid post : List Value} (h : Blk W B e (pre ++ mid ++ post).toArray) : W.there B pre.length mid.length := by
  intro j hj
  refine ⟨?_, h.frozen _⟩
  have := blk_range h j mid[j] (List.getElem?_eq_getElem hj)
  rw [this]; rfl
theorem ld74 {W : World} {B : Nat} {f : Nat → Bool} (h : Blk W B 104 (sv f)) : (Instr.loadAt 104 (.pointer (some ⟨B, 0, none⟩))).run Try.prog W = .ok (.agg (sv f)) W :=
  run_loadAt_mid W B 0 104 (svl f) _ (blk_range (pre := []) (mid := svl f) (post := []) (by simpa [sv] using h)) Try.underlying104 rfl (by rw [info74, svl_len])
theorem lv74 {W : World} {B : Nat} {f : Nat → Bool} (h : Blk W B 104 (sv f)) : (loadVar 104 ⟨B, 0, none⟩).run Try.prog W = .ok (.agg (sv f)) W :=
  run_loadVar_mid W B 0 104 (svl f) _ (blk_range (pre := []) (mid := svl f) (post := []) (by simpa [sv] using h)) Try.underlying104 rfl (by rw [info74, svl_len])
/-- a set stored over another -/
def put74 (W : World) (B : Nat) (f : Nat → Bool) : World := W.setCells B 0 (svl f)
theorem st74 {W : World} {B : Nat} {f g : Nat → Bool} (h : Blk W B 104 (sv g)) : (Instr.storeAt 104 (.pointer (some ⟨B, 0, none⟩)) (.agg (sv f))).run Try.prog W = .ok () (put74 W B f) := by
  have ht : W.there B 0 (sv f).size := by
    have := blk_there (pre := []) (mid := svl g) (post := []) (by simpa [sv] using h)
    simpa [sv, svl_len] using this
  have := run_storeAt_mid W B 0 104 (sv f) ht (by rw [info74]; simp [sv, svl_len]) (all_oneCell_toArray (svl_one f))
  rw [this]; simp [put74, sv]
theorem Blk.put74 {W : World} {B : Nat} {g : Nat → Bool} (h : Blk W B 104 (sv g)) (f : Nat → Bool) : Blk (put74 W B f) B 104 (sv f) := by
  have := blk_setCells (svl f) [] (svl g) [] (by simp [svl_len]) (by simpa [sv] using h)
  simpa [sv, Go.Proofs.Ytaakgoojcogbcaa.put74] using this
theorem Blk.set74 {W : World} {B : Nat} {g : Nat → Bool} (h : Blk W B 104 (sv g)) (k : Nat) (b : Bool) : Blk (W.setCell ⟨B, k, none⟩ (.bool b)) B 104 (sv fun x => if x = k then b else g x) := by
  have := h.set (j := k) (.bool b)
  simpa [sv, List.setIfInBounds_toArray, svl_set] using this
theorem Blk.at74 {W : World} {B : Nat} {g : Nat → Bool} (h : Blk W B 104 (sv g)) {k : Nat} (hk : k < 256) : W.cell? ⟨B, k, none⟩ = some (.bool (g k)) := h.cell (by simp [sv, svl_at g hk])

/-- at the walk's operations -/
theorem wl_load74 {ops : Array Oper} {rest : List Oper} {op : Oper} {a : Act} {w : World} {Q : Exit → Act → World → Prop} {f : Nat → Bool} {B : Nat} (x : Operand) (hgd : op.guard = none) (ho : op.op = .load 104 x)
    (hx : a.eval x = .pointer (some ⟨B, 0, none⟩)) (h : Blk w B 104 (sv f)) (hr : wpList Try.prog ops Q rest (a.put op.dst (.agg (sv f))) w) : wpList Try.prog ops Q (op :: rest) a w :=
  wpList_load_mid hgd 104 x ho B 0 hx (svl f) _ (blk_range (pre := []) (mid := svl f) (post := []) (by simpa [sv] using h)) Try.underlying104 rfl (by rw [info74, svl_len]) hr
theorem wl_store74 {ops : Array Oper} {rest : List Oper} {op : Oper} {a : Act} {w : World} {Q : Exit → Act → World → Prop} {f g : Nat → Bool} {B : Nat} (x y : Operand) (hgd : op.guard = none) (ho : op.op = .store 104 x y)
    (hx : a.eval x = .pointer (some ⟨B, 0, none⟩)) (hy : a.eval y = .agg (sv f)) (h : Blk w B 104 (sv g)) (hr : wpList Try.prog ops Q rest (a.put op.dst undef) (put74 w B f)) : wpList Try.prog ops Q (op :: rest) a w := by
  have ht : w.there B 0 (sv f).size := by
    have := blk_there (pre := []) (mid := svl g) (post := []) (by simpa [sv] using h)
    simpa [sv, svl_len] using this
  exact wpList_store_mid hgd 104 x y ho B 0 (sv f) hx hy ht (by rw [info74]; simp [sv, svl_len]) (all_oneCell_toArray (svl_one f)) (by simpa [put74, sv] using hr)
end Go.Proofs.Ytaakgoojcogbcaa
/- one, all. -/
namespace Go.Proofs.Ytaakgoojcogbcaa
open Go.RowKit
set_option maxRecDepth 8000 in
set_option maxHeartbeats 2000000 in
theorem rone_any (b : Nat) (w : World) (hb : b < 256) :
    Calls Try.prog 59 #[.int .u8 (b : Int)] w fun e w' => e = .returned (.agg (sv fun x => x == b)) ∧ Below w.heap.size w w' := by
  have hb' : (b : Int) < 256 := by omega
  have hz := z74
  have H1 := Hid.mk' ((Blk.new w 104 (sv fun _ => false)).keep (bAlloc (Below.refl _ _) (.cells (sv fun _ => false) 104)))
  have H2 : Hid (Blk ((w.alloc (.cells (sv fun _ => false) 104)).alloc (.cells (sv fun _ => false) 104)) (w.heap.size + 1) 104 (sv fun _ => false)) := by
    have := Blk.new (w.alloc (.cells (sv fun _ => false) 104)) 104 (sv fun _ => false)
    simpa [Hid] using this
  have hsb : (sv fun _ => false)[b]? = some (.bool false) := by simp [sv, svl_at _ hb]
  generalize hSV : sv (fun _ => false) = SV at *
  have HSV := Hid.mk' hSV
  clear hSV
  obtain ⟨F, hF⟩ : ∃ F, F = fun x => x == b := ⟨_, rfl⟩
  rw [← hF]
  have HS : Hid (SV.setIfInBounds b (.bool true) = sv F) := by
    have h := (Blk.new w 104 (sv fun _ => false)).set74 b true
    have h2 := (Blk.new w 104 (sv fun _ => false)).set (j := b) (.bool true)
    unfold Blk at h h2
    rw [h2] at h
    injection h with h
    injection h with h _ _
    unfold Hid
    rw [← HSV.out, h, hF]
    have e : (fun x => if x = b then true else false) = fun x => x == b := by funext x; by_cases e : x = b <;> simp [e]
    rw [e]
  clear hF
  have H3 : Hid (Blk ((w.alloc (.cells SV 104)).alloc (.cells (SV.setIfInBounds b (.bool true)) 104)) (w.heap.size + 1) 104 (sv F)) := by
    have := Blk.new (w.alloc (.cells SV 104)) 104 (SV.setIfInBounds b (.bool true))
    rw [HS.out] at this ⊢
    simpa [Hid] using this
  have H4 : Hid (Blk ((w.alloc (.cells SV 104)).alloc (.cells (SV.setIfInBounds b (.bool true)) 104)) w.heap.size 104 (sv fun _ => false)) := by
    rw [HSV.out]; exact (Blk.new w 104 SV).keep (bAlloc (Below.refl _ _) _)
  go_enter Try.func59, Try.ntmps59
  go_wp2_with (first | (refine wl_load74 (.tmp 3) rfl rfl rfl H3.out ?_) | (refine wl_store74 (.tmp 2) (.tmp 6) rfl rfl rfl rfl H4.out ?_))
  have K := Hid.mk' (H4.out.put74 F)
  have B9 := Hid.mk' (below_setCells (Nat.le_refl w.heap.size) (svl F) 0 (bAlloc (bAlloc (Below.refl w.heap.size w) (.cells SV 104)) (.cells (SV.setIfInBounds b (.bool true)) 104)))
  change Hid (Below _ _ (put74 _ _ F)) at B9
  generalize put74 ((w.alloc (.cells SV 104)).alloc (.cells (SV.setIfInBounds b (.bool true)) 104)) w.heap.size F = W9 at *
  have hlv := lv74 K.out
  exact bodyPost_ret (v := .agg (sv F)) (by simp [results, Try.results59, Act.put, asAddr, hlv]) rfl ⟨rfl, B9.out⟩

set_option maxRecDepth 8000 in
set_option maxHeartbeats 2000000 in
theorem rall_any (w : World) : Calls Try.prog 60 #[] w fun e w' => e = .returned (.agg (sv fun _ => true)) ∧ Below w.heap.size w w' := by
  have hz := z74
  have H1 := Hid.mk' ((Blk.new w 104 (sv fun _ => false)).keep (bAlloc (Below.refl _ _) (.cells (sv fun _ => false) 104)))
  have H2 : Hid (Blk ((w.alloc (.cells (sv fun _ => false) 104)).alloc (.cells (sv fun _ => false) 104)) (w.heap.size + 1) 104 (sv fun _ => false)) := by
    have := Blk.new (w.alloc (.cells (sv fun _ => false) 104)) 104 (sv fun _ => false)
    simpa [Hid] using this
  have B0 := Hid.mk' (bAlloc (bAlloc (Below.refl w.heap.size w) (.cells (sv fun _ => false) 104)) (.cells (sv fun _ => false) 104))
  generalize hSV : sv (fun _ => false) = SV at *
  have HSV := Hid.mk' hSV
  clear hSV
  obtain ⟨T, HT⟩ : ∃ T, Hid (sv (fun _ => true) = T) := ⟨_, rfl⟩
  rw [HT.out]
  go_enter Try.func60, Try.ntmps60
  go_wp2_with fail
  go_loopg [2] 256 (fun m x2 wx => ∃ j : Nat, x2 = .int .i64 (j : Int) ∧ j + m = 256 ∧ Hid (Below w.heap.size w wx) ∧ Hid (Blk wx w.heap.size 104 (sv fun _ => false)) ∧ Hid (Blk wx (w.heap.size + 1) 104 (sv fun x => decide (x < j))))
  case atStart =>
    refine ⟨0, rfl, rfl, B0.out, by rw [HSV.out]; exact H1.out, ?_⟩
    rw [show (sv fun x => decide (x < 0)) = SV by rw [← HSV.out]; congr 1]; exact H2.out
  case round =>
    obtain ⟨j, rfl, hj, HB, K1, K2⟩ := hrel
    cases gk with
    | zero =>
      have hjn : ¬ ((j : Int) < 256) := by omega
      have HE : Hid (sv (fun x => decide (x < j)) = sv fun _ => true) := by
        unfold Hid sv; rw [svl_congr (fun x hx => by rw [decide_eq_true (by omega)])]
      have K2' := K2.out
      rw [HE.out] at K2'
      have K3 := Hid.mk' K2'
      clear K2' K2 HE
      go_wp2_with (first | (refine wl_load74 (.tmp 1) rfl rfl rfl K3.out ?_) | (refine wl_store74 (.tmp 0) (.tmp 9) rfl rfl rfl rfl K1.out ?_))
      have K := Hid.mk' (K1.out.put74 fun _ => true)
      have B9 := Hid.mk' (below_setCells (Nat.le_refl w.heap.size) (svl fun _ => true) 0 HB.out)
      change Hid (Below _ _ (put74 _ _ fun _ => true)) at B9
      generalize put74 wr w.heap.size (fun _ => true) = W9 at *
      have hlv := lv74 K.out
      exact bodyPost_ret (v := .agg (sv fun _ => true)) (by simp [results, Try.results60, asAddr, hlv]) rfl ⟨by rw [HT.out], B9.out⟩
    | succ m =>
      have hjn : (j : Int) < 256 := by omega
      have c1 := K2.out.at74 (k := j) (by omega)
      have z1 := K2.out.frozen j
      go_wp2
      go_roundg m
      case measure => omega
      case rel =>
        refine ⟨j + 1, by go_num, by omega, HB.out.setCell (by show w.heap.size ≤ w.heap.size + 1; omega) _, K1.out.off (by omega) _, ?_⟩
        have := K2.out.set74 j true
        rw [show (fun x => if x = j then true else decide (x < j)) = fun x => decide (x < j + 1) by
          funext x
          by_cases e : x = j
          · subst e; simp
          · rw [if_neg e]; apply decide_eq_decide.2; omega] at this
        exact this
end Go.Proofs.Ytaakgoojcogbcaa
/- The reference's things in memory: 257 cells each. -/
namespace Go.Proofs.Ytaakgoojcogbcaa
open Go.RowKit
/-- a thing's cells -/
def tvl (k : Nat) (f : Nat → Bool) : List Value := .int .i64 (k : Int) :: svl f
def tv (k : Nat) (f : Nat → Bool) : Array Value := (tvl k f).toArray
theorem b76 (f : Nat → Bool) (w : World) : (Instr.build 106 #[(1, .agg (sv f))]).run Try.prog w = .ok (.agg (tv 0 f)) w := by kernel_rfl
theorem b76k (w : World) : (Instr.build 106 #[(0, .int .i64 2)]).run Try.prog w = .ok (.agg (tv 2 fun _ => false)) w := by kernel_rfl
theorem bs54 (k : Nat) (f : Nat → Bool) (w : World) : (Instr.buildSlice 71 1 #[(0, .agg (tv k f))]).run Try.prog w = .ok (.slice (some ⟨w.heap.size, 0, none⟩) 1 1) (w.alloc (.cells (tv k f) 106)) := by kernel_rfl
theorem tvl_len (k : Nat) (f : Nat → Bool) : (tvl k f).length = 257 := by simp [tvl, svl_len]
theorem tvl_one (k : Nat) (f : Nat → Bool) : ∀ v ∈ tvl k f, v.oneCell' = true := by
  intro v hv
  rcases List.mem_cons.1 hv with rfl | h
  · rfl
  · exact svl_one f v h
theorem info76s : (Try.prog.info? 106).map (·.size) = some 257 := by kernel_rfl
theorem info76 : (Try.prog.info? 106).map (fun i => (i.zero, i.size, i.bytes)) = some (some (.agg (tv 0 fun _ => false)), 257, 264) := by kernel_rfl
theorem z76 (w : World) : (zeroValue 106).run Try.prog w = .ok (.agg (tv 0 fun _ => false)) w := by
  have h := info76
  cases hq : Try.prog.info? 106 with
  | none => rw [hq] at h; cases h
  | some i =>
    rw [hq] at h
    simp at h
    simp [zeroValue, typeInfo, hq, h.1]
section
variable {ops : Array Oper} {rest : List Oper} {op : Oper} {a : Act} {w : World} {Q : Exit → Act → World → Prop} {f g : Nat → Bool} {B k : Nat}
theorem wl_build76 (x : Operand) (hgd : op.guard = none) (ho : op.op = .build 106 #[(1, x)]) (hx : a.eval x = .agg (sv f)) (hr : wpList Try.prog ops Q rest (a.put op.dst (.agg (tv 0 f))) w) : wpList Try.prog ops Q (op :: rest) a w := by
  refine wpList_plain hgd fun K hK => ?_
  unfold Oper.wp
  simp only [execOp, ho, List.map_toArray, List.map_cons, List.map_nil, hx, Sem.run_bind, b76, Result.andThen_ok]
  exact hK _ _ hr
theorem wl_build76k (hgd : op.guard = none) (ho : op.op = .build 106 #[(0, .const (.int .i64 2))]) (hr : wpList Try.prog ops Q rest (a.put op.dst (.agg (tv 2 fun _ => false))) w) : wpList Try.prog ops Q (op :: rest) a w := by
  refine wpList_plain hgd fun K hK => ?_
  have hx : a.eval (.const (.int .i64 2)) = .int .i64 2 := rfl
  unfold Oper.wp
  simp only [execOp, ho, List.map_toArray, List.map_cons, List.map_nil, hx, Sem.run_bind, b76k, Result.andThen_ok]
  exact hK _ _ hr
theorem wl_bs54 (x : Operand) (hgd : op.guard = none) (ho : op.op = .buildSlice 71 1 #[(0, x)]) (hx : a.eval x = .agg (tv k f)) (hr : wpList Try.prog ops Q rest (a.put op.dst (.slice (some ⟨w.heap.size, 0, none⟩) 1 1)) (w.alloc (.cells (tv k f) 106))) : wpList Try.prog ops Q (op :: rest) a w := by
  refine wpList_plain hgd fun K hK => ?_
  unfold Oper.wp
  simp only [execOp, ho, List.map_toArray, List.map_cons, List.map_nil, hx, Sem.run_bind, bs54, Result.andThen_ok]
  exact hK _ _ hr
theorem wl_load76 (x : Operand) (hgd : op.guard = none) (ho : op.op = .load 106 x) (hx : a.eval x = .pointer (some ⟨B, 0, none⟩)) (h : Blk w B 106 (tv k f)) (hr : wpList Try.prog ops Q rest (a.put op.dst (.agg (tv k f))) w) : wpList Try.prog ops Q (op :: rest) a w :=
  wpList_load_mid hgd 106 x ho B 0 hx (tvl k f) _ (blk_range (pre := []) (mid := tvl k f) (post := []) (by simpa [tv] using h)) Try.underlying106 rfl (by rw [info76s, tvl_len]) hr
/-- a thing stored over another -/
def put76 (w : World) (B k : Nat) (f : Nat → Bool) : World := w.setCells B 0 (tvl k f)
theorem wl_store76 {k' : Nat} (x y : Operand) (hgd : op.guard = none) (ho : op.op = .store 106 x y) (hx : a.eval x = .pointer (some ⟨B, 0, none⟩)) (hy : a.eval y = .agg (tv k f)) (h : Blk w B 106 (tv k' g)) (hr : wpList Try.prog ops Q rest (a.put op.dst undef) (put76 w B k f)) : wpList Try.prog ops Q (op :: rest) a w := by
  have ht : w.there B 0 (tv k f).size := by
    have := blk_there (pre := []) (mid := tvl k' g) (post := []) (by simpa [tv] using h)
    simpa [tv, tvl_len] using this
  exact wpList_store_mid hgd 106 x y ho B 0 (tv k f) hx hy ht (by rw [info76s]; simp [tv, tvl_len]) (all_oneCell_toArray (tvl_one k f)) (by simpa [put76, tv] using hr)
theorem Blk.put76 {k' : Nat} (h : Blk w B 106 (tv k' g)) (k : Nat) (f : Nat → Bool) : Blk (put76 w B k f) B 106 (tv k f) := by
  have := blk_setCells (tvl k f) [] (tvl k' g) [] (by simp [tvl_len]) (by simpa [tv] using h)
  simpa [tv, Go.Proofs.Ytaakgoojcogbcaa.put76] using this
/-- a thing's set stored -/
def puts76 (w : World) (B : Nat) (f : Nat → Bool) : World := w.setCells B 1 (svl f)
theorem wl_stores76 (x y : Operand) (hgd : op.guard = none) (ho : op.op = .store 104 x y) (hx : a.eval x = .pointer (some ⟨B, 1, none⟩)) (hy : a.eval y = .agg (sv f)) (h : Blk w B 106 (tv k g)) (hr : wpList Try.prog ops Q rest (a.put op.dst undef) (puts76 w B f)) : wpList Try.prog ops Q (op :: rest) a w := by
  have ht : w.there B 1 (sv f).size := by
    have := blk_there (pre := [.int .i64 (k : Int)]) (mid := svl g) (post := []) (by simpa [tv, tvl] using h)
    simpa [sv, svl_len] using this
  exact wpList_store_mid hgd 104 x y ho B 1 (sv f) hx hy ht (by rw [info74]; simp [sv, svl_len]) (all_oneCell_toArray (svl_one f)) (by simpa [puts76, sv] using hr)
theorem Blk.puts76 (h : Blk w B 106 (tv k g)) (f : Nat → Bool) : Blk (puts76 w B f) B 106 (tv k f) := by
  have := blk_setCells (svl f) [.int .i64 (k : Int)] (svl g) [] (by simp [svl_len]) (by simpa [tv, tvl] using h)
  simpa [tv, tvl, Go.Proofs.Ytaakgoojcogbcaa.puts76] using this
theorem Blk.kind76 (h : Blk w B 106 (tv k g)) (k' : Nat) : Blk (w.setCell ⟨B, 0, none⟩ (.int .i64 (k' : Int))) B 106 (tv k' g) := by
  have := h.set (j := 0) (.int .i64 (k' : Int))
  simpa [tv, tvl] using this
theorem Blk.k76 (h : Blk w B 106 (tv k g)) : w.cell? ⟨B, 0, none⟩ = some (.int .i64 (k : Int)) := h.cell (by simp [tv, tvl])
end
/-- the reference's list -/
def tvs (l : List Th) : List Value := l.flatMap fun t => tvl t.k t.s
theorem tvs_len (l : List Th) : (tvs l).length = l.length * 257 := by
  induction l with
  | nil => rfl
  | cons t r ih => simp only [tvs, List.flatMap_cons, List.length_append, tvl_len, List.length_cons] at ih ⊢; omega
theorem tvs_snoc (l : List Th) (t : Th) : tvs (l ++ [t]) = tvs l ++ tvl t.k t.s := by simp [tvs]
theorem own_setCells {base e size n B : Nat} {v : Value} {xs : List Value} (hne : v.ownBlock ≠ some B) : ∀ (vs : List Value) (o : Nat) {W : World}, W.ownsRow base e size v n xs → (W.setCells B o vs).ownsRow base e size v n xs
  | [], _, _, h => h
  | _ :: r, o, _, h => own_setCells hne r (o + 1) (own_setCell h hne)
/-- the same to every match: the kinds, and the sets of singles -/
structure Req (l rl : List Th) : Prop where
  len : rl.length = l.length
  k : ∀ j, (th rl j).k = (th l j).k
  s : ∀ j, (th l j).k ≤ 1 → (th rl j).s = (th l j).s
theorem Req.nil : Req [] [] := ⟨rfl, fun _ => rfl, fun _ _ => rfl⟩
theorem th_snoc (l : List Th) (t : Th) (j : Nat) : th (l ++ [t]) j = if j < l.length then th l j else if j = l.length then t else ⟨9, fun _ => false⟩ := by
  unfold th
  by_cases h : j < l.length
  · rw [if_pos h]; simp [List.getD, List.getElem?_append_left h]
  · rw [if_neg h]
    by_cases h2 : j = l.length
    · subst h2; simp [List.getD]
    · rw [if_neg h2]; simp [List.getD, List.getElem?_eq_none (show (l ++ [t]).length ≤ j by simp; omega)]
theorem Req.snoc {l rl : List Th} (h : Req l rl) {t rt : Th} (hk : rt.k = t.k) (hs : t.k ≤ 1 → rt.s = t.s) : Req (l ++ [t]) (rl ++ [rt]) := by
  refine ⟨by simp [h.len], fun j => ?_, fun j => ?_⟩
  · rw [th_snoc, th_snoc, h.len]; split
    · exact h.k j
    · split
      · exact hk
      · rfl
  · rw [th_snoc, th_snoc, h.len]; split
    · exact h.s j
    · split
      · exact hs
      · intro _; rfl
theorem Req.star {l rl : List Th} (h : Req l rl) (hl : l ≠ []) (hk : (th l (l.length - 1)).k = 0) : Req (l.dropLast ++ [many (th l (l.length - 1)).s]) (rl.dropLast ++ [many (th rl (l.length - 1)).s]) := by
  have hp := List.length_pos_iff.2 hl
  have hd : ∀ (m : List Th) (j : Nat), j < m.length - 1 → th m.dropLast j = th m j := by
    intro m j hj
    unfold th
    have hj2 : j < m.length := by omega
    simp [List.getD, hj, hj2]
  refine Req.snoc ⟨by simp [h.len], fun j => ?_, fun j => ?_⟩ rfl (fun _ => by unfold many; exact h.s _ (by omega))
  · by_cases hj : j < l.length - 1
    · rw [hd l j hj, hd rl j (by rw [h.len]; exact hj)]; exact h.k j
    · unfold th; simp [List.getD, List.getElem?_eq_none (show l.dropLast.length ≤ j by simp; omega), List.getElem?_eq_none (show rl.dropLast.length ≤ j by simp [h.len]; omega)]
  · by_cases hj : j < l.length - 1
    · rw [hd l j hj, hd rl j (by rw [h.len]; exact hj)]; exact h.s j
    · unfold th; simp [List.getD, List.getElem?_eq_none (show l.dropLast.length ≤ j by simp; omega), List.getElem?_eq_none (show rl.dropLast.length ≤ j by simp [h.len]; omega)]
end Go.Proofs.Ytaakgoojcogbcaa
