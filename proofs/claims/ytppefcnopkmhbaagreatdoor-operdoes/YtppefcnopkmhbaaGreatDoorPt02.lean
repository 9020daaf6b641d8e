/- Own, Ins, Inw, Ing, Rep -/
import Derived.Test.YtppefcnopkmhbaaGreatDoorPt01
import Derived.Lib.SliceRun
import Derived.Lib.AppendZeros
import Derived.Lib.AppendZerosOnto
import Derived.Lib.Overlaps
import Derived.Laws.Externs
import Derived.Laws.IdiomCopy
namespace Go.Proofs.YtppefcnopkmhbaaGreatDoor
open Go.RowKit

set_option maxRecDepth 8000
/-- where k cells from lo on lie -/
def Pt (g lo k : Nat) (a : Addr) : Prop := a = ⟨g, lo, none⟩ ∨ (k = 0 ∧ a = ⟨g, 0, none⟩)
theorem so_l (g n c lo : Nat) {z : Int} (hn : n ≤ c) (hlo : lo ≤ n) (hz : z = (lo : Int)) : ∃ a' c', (∀ W, (Instr.sliceAt 22 (.slice (some ⟨g, 0, none⟩) n c) (some (.int .i64 z)) none none).run Tryz.prog W = .ok (.slice (some a') (n - lo) c') W) ∧ Pt g lo (n - lo) a' := by
  subst hz
  have hr : ∀ W, (Instr.sliceAt 22 (.slice (some ⟨g, 0, none⟩) n c) (some (.int .i64 (lo : Int))) none none).run Tryz.prog W = .ok (sliced (some ⟨g, 0, none⟩) lo n c 1) W := fun W => by
    rw [run_sliceAt_slice W 22 _ _ _ _ und22, run_slice_l W 22 _ n c und22 .i64 (lo : Int) (by omega) (by omega), elem22, size5]
    rfl
  by_cases hcl : c = lo
  · refine ⟨⟨g, 0, none⟩, c - lo, fun W => ?_, .inr ⟨by omega, rfl⟩⟩
    rw [hr W]; unfold sliced; rw [if_pos hcl]
  · refine ⟨⟨g, lo, none⟩, c - lo, fun W => ?_, .inl rfl⟩
    rw [hr W]; unfold sliced; rw [if_neg hcl, Nat.mul_one]; simp [Addr.add]
    omega
theorem so_lh (g n c lo hi : Nat) {y z : Int} (hlo : lo ≤ hi) (hhi : hi ≤ c) (hy : y = (lo : Int)) (hz : z = (hi : Int)) : ∃ a' c', (∀ W, (Instr.sliceAt 22 (.slice (some ⟨g, 0, none⟩) n c) (some (.int .i64 y)) (some (.int .i64 z)) none).run Tryz.prog W = .ok (.slice (some a') (hi - lo) c') W) ∧ Pt g lo (hi - lo) a' := by
  subst hy hz
  have hr : ∀ W, (Instr.sliceAt 22 (.slice (some ⟨g, 0, none⟩) n c) (some (.int .i64 (lo : Int))) (some (.int .i64 (hi : Int))) none).run Tryz.prog W = .ok (sliced (some ⟨g, 0, none⟩) lo hi c 1) W := fun W => by
    rw [run_sliceAt_slice W 22 _ _ _ _ und22, run_slice_lh W 22 _ n c und22 .i64 .i64 (lo : Int) (hi : Int) (by omega) (by omega) (by omega), elem22, size5]
    rfl
  by_cases hcl : c = lo
  · refine ⟨⟨g, 0, none⟩, c - lo, fun W => ?_, .inr ⟨by omega, rfl⟩⟩
    rw [hr W]; unfold sliced; rw [if_pos hcl]
  · refine ⟨⟨g, lo, none⟩, c - lo, fun W => ?_, .inl rfl⟩
    rw [hr W]; unfold sliced; rw [if_neg hcl, Nat.mul_one]; simp [Addr.add]
    omega
theorem so_h (g n c hi : Nat) {z : Int} (hhi : hi ≤ c) (hz : z = (hi : Int)) : ∀ W, (Instr.sliceAt 22 (.slice (some ⟨g, 0, none⟩) n c) none (some (.int .i64 z)) none).run Tryz.prog W = .ok (.slice (some ⟨g, 0, none⟩) hi c) W := fun W => by
  subst hz
  rw [run_sliceAt_slice W 22 _ _ _ _ und22, run_slice_h W 22 _ n c und22 .i64 (hi : Int) (by omega) (by omega), elem22, size5]
  show Result.ok (sliced (some ⟨g, 0, none⟩) 0 (hi : Int).toNat c 1) W = _
  unfold sliced
  simp [Addr.add]
theorem srv_pt {W : World} {g lo k c : Nat} {a : Addr} {X : List Value} (h : Blk W g 5 X.toArray) (hp : Pt g lo k a) : Srv W (.slice (some a) k c) k ((X.drop lo).take k) := by
  refine .inr ⟨a, c, rfl, fun j t hj => ?_⟩
  have hjl := (List.getElem?_eq_some_iff.1 hj).1
  rw [List.length_take, List.length_drop] at hjl
  rw [List.getElem?_take_of_lt (by omega), List.getElem?_drop] at hj
  rcases hp with rfl | ⟨h0, _⟩
  · rw [add_none]
    exact h.cell (by rw [List.getElem?_toArray]; exact hj)
  · omega
/-- X with vs from lo on -/
def pat (X : List Value) (lo : Nat) (vs : List Value) : List Value := X.take lo ++ vs ++ X.drop (lo + vs.length)
theorem pat_length {X : List Value} {lo : Nat} {vs : List Value} (h : lo + vs.length ≤ X.length) : (pat X lo vs).length = X.length := by
  unfold pat
  rw [List.length_append, List.length_append, List.length_take, List.length_drop]; omega
theorem blk_pat {W : World} {g lo : Nat} {X vs : List Value} (h : Blk W g 5 X.toArray) (hk : lo + vs.length ≤ X.length) : Blk (W.setCells g lo vs) g 5 (pat X lo vs).toArray := by
  have e : X = X.take lo ++ (X.drop lo).take vs.length ++ X.drop (lo + vs.length) := by
    rw [List.append_assoc, ← List.drop_drop, List.take_append_drop, List.take_append_drop]
  have h1 : Blk W g 5 (X.take lo ++ (X.drop lo).take vs.length ++ X.drop (lo + vs.length)).toArray := by rw [← e]; exact h
  have := blk_setCells vs (X.take lo) ((X.drop lo).take vs.length) (X.drop (lo + vs.length)) (by rw [List.length_take, List.length_drop]; omega) h1
  rw [List.length_take, show min lo X.length = lo by omega] at this
  exact this
theorem blk_some {W : World} {g k : Nat} {X : List Value} (h : Blk W g 5 X.toArray) (hk : k < X.length) : (W.cell? ⟨g, k, none⟩).isSome = true := by
  rw [h.cell (v := X[k]) (by rw [List.getElem?_toArray, List.getElem?_eq_getElem hk])]; rfl
theorem size_of5 : (Tryz.prog.info? 5).map (·.size) = some 1 := by kernel_rfl
/-- copy into a row of one's own -/
theorem cp_own {W : World} {g lo dl dc m k : Nat} {X : List Value} {a : Addr} {u : Value} {news : List Value} (ty : Nat) (h : Blk W g 5 X.toArray) (hp : Pt g lo dl a) (hs : Srv W u m news) (hl : news.length = m) (h1 : ∀ v ∈ news.take k, v.oneCell' = true) (hk : k = min m dl) (hX : lo + dl ≤ X.length) :
    ∃ W', (Builtin.copy_ #[22, 22] ty #[.slice (some a) dl dc, u]).run Tryz.prog W = .ok (goInt k) W' ∧ Blk W' g 5 (pat X lo (news.take k)).toArray ∧ W.grownBy W' (some g) := by
  by_cases h0 : k = 0
  · refine ⟨W, ?_, ?_, ⟨rfl, rfl, rfl, Nat.le_refl _, fun _ _ _ => rfl⟩⟩
    · subst h0
      rcases hs with ⟨rfl, _, _⟩ | ⟨ad, c, rfl, _⟩
      · exact run_copy_none W 22 22 ty 5 _ _ dl dc 0 0 Tryz.underlying22 size_of5 (by simp)
      · exact run_copy_none W 22 22 ty 5 _ _ dl dc m c Tryz.underlying22 size_of5 hk.symm
    · rw [h0, List.take_zero]
      unfold pat
      simpa using h
  · have hkd : k ≤ dl ∧ k ≤ m := by subst hk; exact ⟨Nat.min_le_right _ _, Nat.min_le_left _ _⟩
    have hkl : (news.take k).length = k := by rw [List.length_take]; omega
    rcases hs with ⟨_, rfl, _⟩ | ⟨ad, c, rfl, hc⟩
    · omega
    · rcases hp with rfl | ⟨hd, _⟩
      · have := run_copy_cells (P := Tryz.prog) W 22 22 ty 5 g lo dl dc ad m c (news.take k) Tryz.underlying22 size_of5 (by rw [hkl]; exact hk)
          (fun j v hj => hc j v (by
            have := (List.getElem?_eq_some_iff.1 hj).1
            rw [hkl] at this
            rwa [List.getElem?_take_of_lt this] at hj))
          (fun j hj => blk_some h (by rw [hkl] at hj; omega)) (fun j _ => h.frozen _) h1
        rw [hkl] at this
        exact ⟨_, this, blk_pat h (by rw [hkl]; omega), grown_setCells _ _ _⟩
      · omega
/-- clear a part of a row of one's own -/
theorem cl_own {W : World} {g lo k c : Nat} {X : List Value} {a : Addr} (ty : Nat) (h : Blk W g 5 X.toArray) (hp : Pt g lo k a) (hk : 0 < k) (hX : lo + k ≤ X.length) :
    ∃ W', (Builtin.clear_ #[22] ty #[.slice (some a) k c]).run Tryz.prog W = .ok (.tuple #[]) W' ∧ Blk W' g 5 (pat X lo (List.replicate k (Value.int .u8 0))).toArray ∧ W.grownBy W' (some g) := by
  rcases hp with rfl | ⟨h0, _⟩
  · refine ⟨_, Lib.run_clear_slice W 22 5 ty (.int .u8 0) Tryz.underlying22 (fun w => by kernel_rfl) rfl rfl g lo k c hk (fun j hj => blk_some h (by omega)) (fun j _ => h.frozen _), blk_pat h (by simpa using hX), grown_setCells _ _ _⟩
  · omega
/-- append within a row of one's own -/
theorem ap_own {W : World} {g i c m : Nat} {X : List Value} {u : Value} {news : List Value} (ty : Nat) (h : Blk W g 5 X.toArray) (hX : X.length = c) (hc : c ≤ maxLen) (hi : i + m ≤ c) (hs : Srv W u m news) (hl : news.length = m) (h1 : ∀ v ∈ news, v.oneCell' = true) :
    ∃ W', (Builtin.append_ #[22, 22] ty #[.slice (some ⟨g, 0, none⟩) i c, u]).run Tryz.prog W = .ok (.slice (some ⟨g, 0, none⟩) (i + m) c) W' ∧ Blk W' g 5 (pat X i news).toArray ∧ W.grownBy W' (some g) := by
  obtain ⟨i5, hi5, hz5, hs5, hb5⟩ := info_parts info5
  rcases hs with ⟨rfl, rfl, rfl⟩ | ⟨ad, cc, rfl, hcell⟩
  · have hown : W.ownsRow g 5 1 (.slice (some ⟨g, 0, none⟩) i c) i (X.take i) := ⟨by rw [List.length_take]; omega, .inr ⟨g, c, X.toArray, rfl, Nat.le_refl _, h, by omega, hc, by simp [hX], by simp⟩⟩
    exact ⟨W, run_append_owned_none (P := Tryz.prog) (w := W) g 22 ty 5 i5 1 Tryz.underlying22 hi5 _ i _ hown, by unfold pat; simpa using h, ⟨rfl, rfl, rfl, Nat.le_refl _, fun _ _ _ => rfl⟩⟩
  · have hr := run_append_room (P := Tryz.prog) W 22 ty 5 i5 Tryz.underlying22 hi5 g i c X.toArray h ad m cc news (by rw [hs5]; omega) hcell h1 hi (by rw [hs5]; simp; omega)
    rw [hs5, Nat.mul_one] at hr
    exact ⟨_, hr, setRow_heap W g X.toArray _ 5 _ h, grown_setRow _⟩
theorem zero5 (k : Nat) : (Builtin.zeroCells (Value.int .u8 0).cells k).toList = List.replicate k (Value.int .u8 0) := by
  simp [Builtin.zeroCells, Value.cells]
  apply List.ext_getElem
  · simp
  · intro i h1 h2
    simp [Nat.mod_one]
/-- append of room to the head of a row, into a new row -/
theorem az_own {W : World} {g i n c k : Nat} {X : List Value} (ty : Nat) {z : Int} (h : Blk W g 5 X.toArray) (hX : X.length = c) (hi : i ≤ c) (hn : n = i + k) (hr : c < n) (hz : z = (k : Int)) (hb : n ≤ 150000000000000) :
    ∃ W' G, (Builtin.append_ #[22, 3] ty #[.slice (some ⟨g, 0, none⟩) i c, .int .i64 z]).run Tryz.prog W = .ok (.slice (some ⟨W.heap.size, 0, none⟩) n G) W' ∧ Blk W' W.heap.size 5 (X.take i ++ List.replicate k (Value.int .u8 0) ++ List.replicate (G - n) (Value.int .u8 0)).toArray ∧ W.grownBy W' none ∧ n ≤ G ∧ G ≤ maxLen := by
  obtain ⟨i5, hi5, hz5, hs5, hb5⟩ := info_parts info5
  subst hn hz
  have hold : (Builtin.firstCells i5.size i (.slice (some ⟨g, 0, none⟩) i c)).run Tryz.prog W.drew = .ok (X.take i).toArray W.drew := by
    rw [hs5]
    exact run_firstCells_some W.drew 1 i ⟨g, 0, none⟩ i c (X.take i) (by rw [List.length_take]; omega) (fun j v hj => by
      have hj' := (List.getElem?_eq_some_iff.1 hj).1
      rw [List.length_take] at hj'
      rw [List.getElem?_take_of_lt (by omega)] at hj
      rw [add_none, Nat.zero_add]
      exact Blk.cell (W := W.drew) h (by rw [List.getElem?_toArray]; exact hj))
  have hq := next_quarter hr
  have hrun := Lib.run_append_grow_zeros (P := Tryz.prog) W 22 3 ty 5 i5 (.int .u8 0) .i64 .i64 Tryz.underlying22 Tryz.underlying3 hi5 hz5 (some ⟨g, 0, none⟩) i c (X.take i) hold k (by omega) (by omega) hr (by omega) (by rw [hb5]; omega) (by rw [hb5]; omega)
  have hge := grownCap_ge W (i + k) c 5
  have hcm := grownCap_le_maxLen W (i + k) c 5 (by unfold maxLen; omega)
  refine ⟨_, _, hrun, ?_, ⟨rfl, rfl, rfl, by simp, fun k hk _ => heap_alloc_old W.drew _ hk⟩, hge, hcm⟩
  have e : ((X.take i).toArray ++ Builtin.zeroCells (Value.int .u8 0).cells k ++ Builtin.zeroCells (Value.int .u8 0).cells (grownCap W (i + k) c 5 - (i + k))) = (X.take i ++ List.replicate k (Value.int .u8 0) ++ List.replicate (grownCap W (i + k) c 5 - (i + k)) (Value.int .u8 0)).toArray := by
    apply Array.ext'
    simp only [Array.toList_append, zero5]
  rw [e]
  exact heap_alloc_new W.drew _
/-- a text and a row of one's own lie apart -/
theorem shape_tx {W : World} {a : Addr} {v : Value} (h : W.cell? a = some v) : ∃ t k, W.shape? a.block = some (t, k) ∧ k ≠ 0 := by
  unfold World.cell? at h
  unfold World.shape?
  cases hb : W.heap[a.block]? with
  | none => rw [hb] at h; cases h
  | some o =>
    rw [hb] at h
    cases o with
    | cells c e f =>
      refine ⟨e, c.size, rfl, fun h0 => ?_⟩
      dsimp only at h
      split at h
      · cases h
      · rw [Array.getElem?_eq_none (by omega)] at h; cases h
    | _ => cases h
theorem ovl_own {W : World} {g lo dl dc m c : Nat} {X : List Value} {a ad : Addr} {v : Value} (h : Blk W g 5 X.toArray) (hp : Pt g lo dl a) (hc : W.cell? ad = some v) (hne : ad.block ≠ g) :
    (callFunc 126 #[.slice (some a) dl dc, .slice (some ad) m c]).run Tryz.prog W = .ok (.value (.bool false)) W := by
  have hg : a.block = g := by rcases hp with rfl | ⟨_, rfl⟩ <;> rfl
  obtain ⟨t, k, hs, hk⟩ := shape_tx hc
  rw [run_callFunc_extern Tryz.func126 (by kernel_rfl) (by kernel_rfl) (by kernel_rfl) (e := Extern.SlicesOverlaps.overlaps #[22, 22] #[4]) (by kernel_rfl),
    Lib.run_overlaps_apart W 22 4 5 Tryz.underlying22 1 size5 a ad dl dc m c (by rw [hg]; exact fun e => hne e.symm) 5 t X.toArray.size k (by unfold World.shape?; rw [hg, show W.heap[g]? = _ from h]) hs hk (by obtain ⟨b, o, s⟩ := a; subst hg; rcases hp with e | ⟨_, e⟩ <;> (cases e; exact h.frozen _)) (by rw [hg]; exact h.frozen _)]
  rfl
theorem ovl_own2 {W : World} {g lo dl dc m c : Nat} {X : List Value} {a ad : Addr} {v : Value} (h : Blk W g 5 X.toArray) (hp : Pt g lo dl a) (hc : W.cell? ad = some v) (hne : ad.block ≠ g) :
    (callFunc 126 #[.slice (some ad) m c, .slice (some a) dl dc]).run Tryz.prog W = .ok (.value (.bool false)) W := by
  have hg : a.block = g := by rcases hp with rfl | ⟨_, rfl⟩ <;> rfl
  obtain ⟨t, k, hs, hk⟩ := shape_tx hc
  have hnb : (ad.block != a.block) = true := by rw [hg]; simpa using hne
  have hnb' : (ad.block == a.block) = false := by rw [hg]; simpa using hne
  have hfa : W.frozen? a = false := by obtain ⟨b, o, s⟩ := a; subst hg; rcases hp with e | ⟨_, e⟩ <;> (cases e; exact h.frozen _)
  have hfe : W.frozen? { block := a.block, off := X.length } = false := by rw [hg]; exact h.frozen _
  have hsa : W.shape? a.block = some (5, X.length) := by unfold World.shape?; rw [hg, show W.heap[g]? = _ from h]; simp
  rw [run_callFunc_extern Tryz.func126 (by kernel_rfl) (by kernel_rfl) (by kernel_rfl) (e := Extern.SlicesOverlaps.overlaps #[22, 22] #[4]) (by kernel_rfl)]
  delta Extern.SlicesOverlaps.overlaps Extern.SlicesOverlaps.overlaps.match_4
  dsimp only
  rw [dif_pos (show (#[Value.slice (some ad) m c, Value.slice (some a) dl dc] : Array Value).size = 2 from rfl)]
  delta Extern.SlicesOverlaps.overlaps._sparseCasesOn_4
  dsimp only [Array.getLit, List.getElem_toArray, List.getElem_cons_zero, List.getElem_cons_succ]
  by_cases h0 : m = 0 ∨ dl = 0 ∨ (1 : Nat) = 0
  · simp [run_underlying Tryz.underlying22]
    intro h1 h2
    omega
  · cases k with
    | zero => exact absurd rfl hk
    | succ k =>
      simp [run_underlying Tryz.underlying22, hnb, hnb', frozen, noView, viewAt, mayBeOne, stringish, shape, Sem.run, hs, hsa, hfa, hfe]
end Go.Proofs.YtppefcnopkmhbaaGreatDoor

namespace Go.Proofs.YtppefcnopkmhbaaGreatDoor
open Go.RowKit

set_option maxRecDepth 8000
theorem wl_copy {w : World} {ops : Array Oper} {rest : List Oper} {o : Oper} {a : Act} {Q : Exit → Act → World → Prop} (hgd : o.guard = none) (d s : Operand)
    (ho : o.op = .call { callee := .builtin .copy, args := #[d, s], argTypes := #[22, 22] }) (v u : Value) (hd : a.eval d = v) (hs : a.eval s = u) {v' : Value} {w' : World}
    (hr : ∀ ty, (Builtin.copy_ #[22, 22] ty #[v, u]).run Tryz.prog w = .ok v' w') (h : wpList Tryz.prog ops Q rest (a.put o.dst v') w') : wpList Tryz.prog ops Q (o :: rest) a w := by
  refine wpList_plain hgd fun K hK => ?_
  have hr' := hr o.type
  unfold Oper.wp execOp
  simp only [ho, resolve, invoke, builtin, Sem.run_bind, Sem.run_pure, Result.andThen_ok, List.map_toArray, List.map_cons, List.map_nil, hd, hs, hr']
  exact hK _ _ h
theorem st_copy {w : World} {cc : Bool} {o : Oper} {a : Act} {K : Act → World → Prop} {Q : Exit → Act → World → Prop} {E : Prop} (hcc : cc = true) (d s : Operand)
    (ho : o.op = .call { callee := .builtin .copy, args := #[d, s], argTypes := #[22, 22] }) (v u : Value) (hd : a.eval d = v) (hs : a.eval s = u) {v' : Value} {w' : World}
    (hr : ∀ ty, (Builtin.copy_ #[22, 22] ty #[v, u]).run Tryz.prog w = .ok v' w') (h : K (a.put o.dst v') w') : if cc = true then Oper.wp Tryz.prog o a w K Q else E := by
  rw [if_pos hcc]
  have hr' := hr o.type
  unfold Oper.wp execOp
  simp only [ho, resolve, invoke, builtin, Sem.run_bind, Sem.run_pure, Result.andThen_ok, List.map_toArray, List.map_cons, List.map_nil, hd, hs, hr']
  exact h
theorem wl_app {w : World} {ops : Array Oper} {rest : List Oper} {o : Oper} {a : Act} {Q : Exit → Act → World → Prop} (hgd : o.guard = none) (t : Nat) (d s : Operand)
    (ho : o.op = .call { callee := .builtin .append, args := #[d, s], argTypes := #[22, t] }) (v u : Value) (hd : a.eval d = v) (hs : a.eval s = u) {v' : Value} {w' : World}
    (hr : ∀ ty, (Builtin.append_ #[22, t] ty #[v, u]).run Tryz.prog w = .ok v' w') (h : wpList Tryz.prog ops Q rest (a.put o.dst v') w') : wpList Tryz.prog ops Q (o :: rest) a w :=
  Lib.wpList_append_run w hgd d s 22 t ho v u hd hs v' w' (hr _) h
/-- copy, at any type that the answer is said to have -/
theorem cp_ty {W : World} {g lo dl dc m k : Nat} {X : List Value} {a : Addr} {u : Value} {news : List Value} (h : Blk W g 5 X.toArray) (hp : Pt g lo dl a) (hs : Srv W u m news) (hl : news.length = m) (h1 : ∀ v ∈ news.take k, v.oneCell' = true) (hk : k = min m dl) (hX : lo + dl ≤ X.length) :
    ∃ W', (∀ ty, (Builtin.copy_ #[22, 22] ty #[.slice (some a) dl dc, u]).run Tryz.prog W = .ok (goInt k) W') ∧ Blk W' g 5 (pat X lo (news.take k)).toArray ∧ W.grownBy W' (some g) := by
  obtain ⟨W', hr, h2, h3⟩ := cp_own (dc := dc) 0 h hp hs hl h1 hk hX
  exact ⟨W', fun ty => hr, h2, h3⟩
theorem az_ty {W : World} {g i n c k : Nat} {X : List Value} {z : Int} (h : Blk W g 5 X.toArray) (hX : X.length = c) (hi : i ≤ c) (hn : n = i + k) (hr : c < n) (hz : z = (k : Int)) (hb : n ≤ 150000000000000) :
    ∃ W' G, (∀ ty, (Builtin.append_ #[22, 3] ty #[.slice (some ⟨g, 0, none⟩) i c, .int .i64 z]).run Tryz.prog W = .ok (.slice (some ⟨W.heap.size, 0, none⟩) n G) W') ∧ Blk W' W.heap.size 5 (X.take i ++ List.replicate k (Value.int .u8 0) ++ List.replicate (G - n) (Value.int .u8 0)).toArray ∧ W.grownBy W' none ∧ n ≤ G ∧ G ≤ maxLen := by
  obtain ⟨W', G, hr, h2⟩ := az_own 0 h hX hi hn hr hz hb
  exact ⟨W', G, fun ty => hr, h2⟩
/-- what a call that edits a row gives -/
def RepP (base : Nat) (v : Value) (k : Nat) (l : List UInt8) (w : World) (e : Ending) (w' : World) : Prop :=
  ∃ v', e = .returned v' ∧ w'.ownsRow base 5 1 v' k (bv l) ∧ w.grownBy w' v.ownBlock ∧ (v'.ownBlock = v.ownBlock ∨ ∃ q, v'.ownBlock = some q ∧ w.heap.size ≤ q)
theorem bv_append (a b : List UInt8) : bv (a ++ b) = bv a ++ bv b := by simp [bv]
theorem bv_take (l : List UInt8) (i : Nat) : bv (l.take i) = (bv l).take i := by simp [bv, List.map_take]
theorem bv_drop (l : List UInt8) (i : Nat) : bv (l.drop i) = (bv l).drop i := by simp [bv, List.map_drop]
/-- a row known whole is owned -/
theorem own_blk {W : World} {base g n c : Nat} {X xs : List Value} (h : Blk W g 5 X.toArray) (hb : base ≤ g) (hX : X.length = c) (hn : n ≤ c) (hc : c ≤ maxLen) (hx : X.take n = xs) : W.ownsRow base 5 1 (.slice (some ⟨g, 0, none⟩) n c) n xs :=
  ⟨by rw [← hx, List.length_take]; omega, .inr ⟨g, c, X.toArray, rfl, hb, h, hn, hc, by simp [hX], by simpa using hx⟩⟩
/-- an owned row, known whole -/
theorem blk_own {W : World} {base n : Nat} {v : Value} {xs : List Value} (h : W.ownsRow base 5 1 v n xs) (hn : 1 ≤ n) : ∃ (g c : Nat) (X : List Value), v = .slice (some ⟨g, 0, none⟩) n c ∧ base ≤ g ∧ Blk W g 5 X.toArray ∧ X.length = c ∧ n ≤ c ∧ c ≤ maxLen ∧ X.take n = xs := by
  rcases h.2 with ⟨_, h0⟩ | ⟨g, c, cur, rfl, h1, h2, h3, h4, h5, h6⟩
  · omega
  · exact ⟨g, c, cur.toList, rfl, h1, h2, by simpa using h5, h3, h4, by simpa using h6⟩
theorem Tx.ne {w : World} {ao : Option Addr} {n c : Nat} {l : List UInt8} (h : Tx w ao n c l) (hn : 0 < n) : ∃ a v, ao = some a ∧ w.cell? a = some v := by
  obtain ⟨g, o, rfl, h1⟩ := h.at hn
  exact ⟨_, _, rfl, by simpa using h1 0 hn⟩
theorem grown_drew (w : World) : w.grownBy w.drew none := ⟨rfl, rfl, rfl, Nat.le_refl _, fun _ _ _ => rfl⟩
theorem grown_some {w w' : World} (h : w.grownBy w' none) (r : Option Nat) : w.grownBy w' r := ⟨h.os, h.tape, h.output, h.size, fun k hk _ => h.block k hk (by simp)⟩
/-- what is left behind a copy of the tail and one of the new bytes -/
theorem ins_list {X V : List Value} {i j n m : Nat} (hij : i ≤ j) (hjn : j ≤ n) (hm : V.length = m) (hX : n - (j - i) + m ≤ X.length) (hn : n ≤ X.length) {S : List Value} (hS : S = (X.take n).drop j) :
    (pat (pat X (i + m) S) i V).take (n - (j - i) + m) = (X.take n).take i ++ V ++ (X.take n).drop j := by
  have hSl : S.length = n - j := by rw [hS, List.length_drop, List.length_take]; omega
  have e1 : (pat X (i + m) S).take i = (X.take n).take i := by
    unfold pat
    rw [List.append_assoc, List.take_append_of_le_length (by rw [List.length_take]; omega), List.take_take, List.take_take, show min i (i + m) = i by omega, show min i n = i by omega]
  have e2 : (pat X (i + m) S).drop (i + m) = S ++ X.drop (i + m + S.length) := by
    unfold pat
    rw [List.append_assoc, List.drop_append_of_le_length (by rw [List.length_take]; omega), List.drop_take, Nat.sub_self, List.take_zero, List.nil_append]
  have e : pat (pat X (i + m) S) i V = ((X.take n).take i ++ V ++ S) ++ X.drop (i + m + S.length) := by
    show (pat X (i + m) S).take i ++ V ++ (pat X (i + m) S).drop (i + V.length) = _
    rw [e1, hm, e2]
    simp only [List.append_assoc]
  rw [e, hS, List.take_left' (by simp only [List.length_append, List.length_take, List.length_drop]; omega)]
/-- the same, the new bytes first, in a new row -/
theorem new_list {A V S : List Value} {i m k G : Nat} (hA : A.length = i) (hm : V.length = m) (hk : S.length + m = k) :
    (pat (pat (A ++ List.replicate k (Value.int .u8 0) ++ List.replicate G (Value.int .u8 0)) i V) (i + m) S).take (i + k) = A ++ V ++ S := by
  have e0 : A ++ List.replicate k (Value.int .u8 0) ++ List.replicate G (Value.int .u8 0) = A ++ List.replicate (k + G) (Value.int .u8 0) := by
    rw [List.append_assoc, List.replicate_append_replicate]
  have e1 : pat (A ++ List.replicate k (Value.int .u8 0) ++ List.replicate G (Value.int .u8 0)) i V = A ++ V ++ List.replicate (k - m + G) (Value.int .u8 0) := by
    rw [e0]
    unfold pat
    rw [List.take_left' hA, ← List.drop_drop, List.drop_left' hA, hm, List.drop_replicate]
    congr 2; omega
  rw [e1]
  unfold pat
  rw [List.take_left' (i := i + m) (by simp [hA, hm]), List.take_left' (by simp [hA, hm]; omega)]
end Go.Proofs.YtppefcnopkmhbaaGreatDoor

namespace Go.Proofs.YtppefcnopkmhbaaGreatDoor
open Go.RowKit

set_option maxRecDepth 8000
set_option maxHeartbeats 4000000 in
/-- nothing is put in -/
theorem ins_none (base : Nat) (ao : Option Addr) (n c i : Nat) (T : List UInt8) (vo : Option Addr) (vc : Nat) (w : World) (H : Hid (w.ownsRow base 5 1 (.slice ao n c) n (bv T))) (hb : n ≤ 150000000000000) (hi : i ≤ n) :
    Calls Tryz.prog 125 #[.slice ao n c, .int .i64 (i : Int), .slice vo 0 vc] w fun e w' => RepP base (.slice ao n c) n T w e w' := by
  obtain ⟨ao', c', e0, hT⟩ := own_tx H.out hb
  simp at e0
  obtain ⟨rfl, rfl⟩ := e0
  obtain ⟨a1, c1, hs1, -⟩ := sl_l hT (lo := i) (z := (i : Int)) hi rfl
  clear hT
  go_enter Tryz.func125, Tryz.ntmps125
  go_wp2
  go_ret
  exact ⟨_, rfl, H.out, ⟨rfl, rfl, rfl, Nat.le_refl _, fun _ _ _ => rfl⟩, .inl rfl⟩
set_option maxHeartbeats 4000000 in
/-- put in behind the last byte -/
theorem ins_end (base : Nat) (ao : Option Addr) (n c : Nat) (T : List UInt8) (vo : Option Addr) (m vc : Nat) (V : List UInt8) (w : World) (H : Hid (w.ownsRow base 5 1 (.slice ao n c) n (bv T))) (HV : Hid (Tx w vo m vc V)) (hm : 0 < m) (hm2 : m ≤ 140737488355328) (hb : n + m ≤ 150000000000000) (hbase : base ≤ w.heap.size) :
    Calls Tryz.prog 125 #[.slice ao n c, .int .i64 (n : Int), .slice vo m vc] w fun e w' => RepP base (.slice ao n c) (n + m) (T ++ V) w e w' := by
  obtain ⟨ao', c', e0, hT⟩ := own_tx H.out (by omega)
  simp at e0
  obtain ⟨rfl, rfl⟩ := e0
  obtain ⟨a1, c1, hs1, -⟩ := sl_l hT (lo := n) (z := (n : Int)) (Nat.le_refl _) rfl
  have hz1 : ¬ ((m : Int) = 0) := by omega
  have hvl := Hid.mk' HV.out.len
  clear hT
  obtain ⟨v', w', hr, h2, h3, h4⟩ := run_bg 22 base (.slice ao n c) n (bv T) H.out (.slice vo m vc) m (bv V) HV.out.srv (by rw [bv_length]; exact hvl.out) (bv_one V) hb (.inl hm2) hbase
  rw [← bv_append] at h2
  have H2 := Hid.mk' h2
  have H3 := Hid.mk' h3
  have H4 := Hid.mk' h4
  have HR : Hid (∀ ty, (Builtin.append_ #[22, 22] ty #[.slice ao n c, .slice vo m vc]).run Tryz.prog w = .ok v' w') := fun ty => hr
  clear h2 h3 h4 hr
  go_enter Tryz.func125, Tryz.ntmps125
  go_wp2_with (at_builtin; refine wl_app rfl 22 _ _ rfl _ _ rfl rfl HR.out ?_)
  go_ret
  exact ⟨_, rfl, H2.out, H3.out, H4.out⟩
set_option maxHeartbeats 4000000 in
/-- put in where there is room -/
theorem ins_room (base g n c i : Nat) (T : List UInt8) (X : List Value) (va : Addr) (m vc : Nat) (V : List UInt8) (w : World) (HB : Hid (Blk w g 5 X.toArray)) (HX : Hid (X.length = c)) (HT : Hid (X.take n = bv T)) (HV : Hid (Tx w (some va) m vc V)) (hm : 0 < m) (hi : i < n) (hroom : n + m ≤ c) (hg : base ≤ g) (hc : c ≤ maxLen) (HA : Hid (va.block ≠ g)) :
    Calls Tryz.prog 125 #[.slice (some ⟨g, 0, none⟩) n c, .int .i64 (i : Int), .slice (some va) m vc] w fun e w' => RepP base (.slice (some ⟨g, 0, none⟩) n c) (n + m) (T.take i ++ V ++ T.drop i) w e w' := by
  have hc63 : c ≤ 9223372036854775807 := by unfold maxLen at hc; omega
  obtain ⟨nm, hnm⟩ : ∃ nm, nm = n + m := ⟨_, rfl⟩
  obtain ⟨im, him⟩ : ∃ im, im = i + m := ⟨_, rfl⟩
  have hz1 : ¬ ((m : Int) = 0) := by omega
  have hz2 : ¬ ((i : Int) = (n : Int)) := by omega
  have hw1 : IntKind.i64.wrap ((n : Int) + (m : Int)) = (nm : Int) := by rw [IntKind.wrap_i64]; omega
  have hw2 : IntKind.i64.wrap ((i : Int) + (m : Int)) = (im : Int) := by rw [IntKind.wrap_i64]; omega
  have hz3 : ¬ ((c : Int) < (nm : Int)) := by omega
  obtain ⟨a1, c1, hs1, -⟩ := so_l g n c i (z := (i : Int)) (by omega) (by omega) rfl
  have hs2 := so_h g n c nm (z := (nm : Int)) (by omega) rfl
  obtain ⟨a3, c3, hs3, hp3⟩ := so_l g nm c im (z := (im : Int)) (by omega) (by omega) rfl
  obtain ⟨a4, c4, hs4, hp4⟩ := so_l g nm c i (z := (i : Int)) (by omega) (by omega) rfl
  obtain ⟨va', u, e1, hcell⟩ := HV.out.ne hm
  obtain rfl : va = va' := by simpa using e1
  have hov := ovl_own2 (m := m) (c := vc) (dc := c3) HB.out hp3 hcell HA.out
  have hvl := HV.out.len
  have hXl := HX.out
  have hVt : (bv V).take m = bv V := List.take_of_length_le (by rw [bv_length]; omega)
  have hSl : ((X.drop i).take (nm - i)).take (n - i) = (X.take n).drop i := by
    rw [List.take_take, show min (n - i) (nm - i) = n - i by omega, ← List.drop_take]
  obtain ⟨W1, hr1, B1, G1⟩ := cp_ty (W := w.drew) (dc := c3) (k := n - i) (u := .slice (some a4) (nm - i) c4) (m := nm - i) HB.out hp3 (srv_pt (W := w.drew) HB.out hp4) (by rw [List.length_take, List.length_drop]; omega) (by rw [hSl, HT.out, ← bv_drop]; exact bv_one _) (by rw [Nat.min_def]; split <;> omega) (by omega)
  rw [hSl] at B1
  have hV1 : Tx W1 (some va) m vc V := by
    refine ⟨hvl, HV.out.cap, HV.out.big, HV.out.nil, fun a ha j hj => ?_⟩
    obtain rfl : va = a := by simpa using ha
    have h1 := HV.out.cells va rfl j hj
    rw [World.cell?_of_block (w := w) (G1.block _ (lt_of_cell (a := va.add j) h1) (by unfold Addr.add; split <;> (try split) <;> simpa using HA.out))]
    exact h1
  obtain ⟨W2, hr2, B2, G2⟩ := cp_ty (W := W1) (dc := c4) (k := m) (lo := i) B1 hp4 hV1.srv (by rw [bv_length]; exact hvl) (by rw [hVt]; exact bv_one V) (by rw [Nat.min_def]; split <;> omega) (by rw [pat_length (by rw [List.length_drop, List.length_take]; omega)]; omega)
  rw [hVt] at B2
  have HO : Hid (W2.ownsRow base 5 1 (.slice (some ⟨g, 0, none⟩) nm c) (n + m) (bv (T.take i ++ V ++ T.drop i))) := by
    unfold Hid
    rw [← hnm]
    have hl1 : ((X.take n).drop i).length = n - i := by rw [List.length_drop, List.length_take]; omega
    refine own_blk B2 hg ?_ (by omega) hc ?_
    · rw [pat_length (by rw [pat_length (by omega), bv_length]; omega), pat_length (by omega)]; exact hXl
    · have h9 := ins_list (X := X) (V := bv V) (i := i) (j := i) (n := n) (m := m) (Nat.le_refl _) (by omega) (by rw [bv_length]; exact hvl) (by omega) (by omega) (S := (X.take n).drop i) rfl
      rw [him, show nm = n - (i - i) + m by omega, h9, HT.out, bv_append, bv_append, bv_take, bv_drop]
  have HG : Hid (w.grownBy W2 (some g)) := (grown_some (grown_drew w) _).trans (G1.trans G2)
  have HR1 := Hid.mk' hr1
  have HR2 := Hid.mk' hr2
  have HOV := Hid.mk' hov
  clear hVt B1 G1 B2 G2 hV1 hSl hXl hvl hcell hr1 hr2 hp3 hp4 hov hc HB HX HT HV HA
  clear hnm him hroom hi hm hc63
  go_enter Tryz.func125, Tryz.ntmps125
  go_wp2_with (simp only [HOV.out])
  go_region_law (refine st_copy rfl _ _ rfl _ _ (by simp [Act.eval, Act.put]) (by simp [Act.eval, Act.put]) HR1.out ?_)
  have hr2 := HR2.out
  go_wp2
  go_ret
  exact ⟨_, rfl, HO.out, HG.out, .inl rfl⟩
end Go.Proofs.YtppefcnopkmhbaaGreatDoor

namespace Go.Proofs.YtppefcnopkmhbaaGreatDoor
open Go.RowKit

set_option maxRecDepth 8000
theorem grown_new {w W W' : World} {q : Nat} (h : w.grownBy W none) (h2 : W.grownBy W' (some q)) (hq : w.heap.size ≤ q) : w.grownBy W' none :=
  ⟨h2.os.trans h.os, h2.tape.trans h.tape, h2.output.trans h.output, Nat.le_trans h.size h2.size, fun k hk _ => by
    rw [h2.block k (by have := h.size; omega) (by intro e; injection e with e; omega)]
    exact h.block k hk (by simp)⟩
theorem Tx.grown {w W : World} {ao : Option Addr} {n c : Nat} {l : List UInt8} {r : Option Nat} (h : Tx w ao n c l) (hg : w.grownBy W r) (hne : 0 < n → ∀ a, ao = some a → some a.block ≠ r) : Tx W ao n c l :=
  ⟨h.len, h.cap, h.big, h.nil, fun a ha j hj => by
    have h1 := h.cells a ha j hj
    have e : (a.add j).block = a.block := by unfold Addr.add; split <;> (try split) <;> rfl
    rw [World.cell?_of_block (w := w) (hg.block _ (lt_of_cell h1) (by rw [e]; exact hne (by omega) a ha))]
    exact h1⟩
set_option maxHeartbeats 4000000 in
theorem ins_grow (base g n c i : Nat) (T : List UInt8) (X : List Value) (va : Addr) (m vc : Nat) (V : List UInt8) (w : World) (HB : Hid (Blk w g 5 X.toArray)) (HX : Hid (X.length = c)) (HT : Hid (X.take n = bv T)) (HV : Hid (Tx w (some va) m vc V)) (hm : 0 < m) (hi : i < n) (hnc : n ≤ c) (hroom : c < n + m) (hb : n + m ≤ 150000000000000) (hbase : base ≤ w.heap.size) :
    Calls Tryz.prog 125 #[.slice (some ⟨g, 0, none⟩) n c, .int .i64 (i : Int), .slice (some va) m vc] w fun e w' => RepP base (.slice (some ⟨g, 0, none⟩) n c) (n + m) (T.take i ++ V ++ T.drop i) w e w' := by
  obtain ⟨nm, hnm⟩ : ∃ nm, nm = n + m := ⟨_, rfl⟩
  obtain ⟨im, him⟩ : ∃ im, im = i + m := ⟨_, rfl⟩
  obtain ⟨k, hk⟩ : ∃ k, k = nm - i := ⟨_, rfl⟩
  obtain ⟨q, hq⟩ : ∃ q, q = w.heap.size := ⟨_, rfl⟩
  have hglt := HB.out.lt
  have hz1 : ¬ ((m : Int) = 0) := by omega
  have hz2 : ¬ ((i : Int) = (n : Int)) := by omega
  have hw1 : IntKind.i64.wrap ((n : Int) + (m : Int)) = (nm : Int) := by rw [IntKind.wrap_i64]; omega
  have hw2 : IntKind.i64.wrap ((i : Int) + (m : Int)) = (im : Int) := by rw [IntKind.wrap_i64]; omega
  have hw3 : IntKind.i64.wrap ((nm : Int) - (i : Int)) = (k : Int) := by rw [IntKind.wrap_i64]; omega
  have hz3 : (c : Int) < (nm : Int) := by omega
  obtain ⟨a1, c1, hs1, hp1⟩ := so_l g n c i (z := (i : Int)) (by omega) (by omega) rfl
  have hs2 := so_h g n c i (z := (i : Int)) (by omega) rfl
  have hXl := HX.out
  have hvl := HV.out.len
  have hVt : (bv V).take m = bv V := List.take_of_length_le (by rw [bv_length]; omega)
  obtain ⟨W1, G, hr1, B1, G1, hG1, hG2⟩ := az_ty (z := (k : Int)) HB.out hXl (show i ≤ c by omega) (show nm = i + k by omega) (by omega) rfl (by omega)
  rw [← hq] at hr1 B1
  obtain ⟨a3, c3, hs3, hp3⟩ := so_l q nm G i (z := (i : Int)) (by omega) (by omega) rfl
  obtain ⟨a4, c4, hs4, hp4⟩ := so_l q nm G im (z := (im : Int)) (by omega) (by omega) rfl
  have hV1 : Tx W1 (some va) m vc V := HV.out.grown G1 (fun _ _ _ => by simp)
  have hl1 : (X.take i ++ List.replicate k (Value.int .u8 0) ++ List.replicate (G - nm) (Value.int .u8 0)).length = G := by simp only [List.length_append, List.length_take, List.length_replicate]; omega
  obtain ⟨W2, hr2, B2, G2⟩ := cp_ty (W := W1) (dc := c3) (k := m) (lo := i) B1 hp3 hV1.srv (by rw [bv_length]; exact hvl) (by rw [hVt]; exact bv_one V) (by rw [Nat.min_def]; split <;> omega) (by omega)
  rw [hVt] at B2
  have hl2 : (pat (X.take i ++ List.replicate k (Value.int .u8 0) ++ List.replicate (G - nm) (Value.int .u8 0)) i (bv V)).length = G := by rw [pat_length (by rw [hl1, bv_length]; omega)]; exact hl1
  have X2 : Blk W2 g 5 X.toArray := (HB.out.grown G1 (by simp)).grown G2 (by intro e; injection e with e; omega)
  have hSl : ((X.drop i).take (n - i)).take (n - i) = (X.take n).drop i := by
    rw [List.take_take, Nat.min_self, ← List.drop_take]
  obtain ⟨W3, hr3, B3, G3⟩ := cp_ty (W := W2.drew) (dc := c4) (k := n - i) (u := .slice (some a1) (n - i) c1) (m := n - i) B2 hp4 (srv_pt (W := W2.drew) X2 hp1) (by rw [List.length_take, List.length_drop]; omega) (by rw [hSl, HT.out, ← bv_drop]; exact bv_one _) (by rw [Nat.min_def]; split <;> omega) (by rw [hl2]; omega)
  rw [hSl] at B3
  have hSn : ((X.take n).drop i).length = n - i := by rw [List.length_drop, List.length_take]; omega
  have HO : Hid (W3.ownsRow base 5 1 (.slice (some ⟨q, 0, none⟩) nm G) (n + m) (bv (T.take i ++ V ++ T.drop i))) := by
    unfold Hid
    rw [← hnm]
    refine own_blk B3 (by omega) ?_ hG1 hG2 ?_
    · rw [pat_length (by rw [hl2]; omega)]; exact hl2
    · have h9 := new_list (A := X.take i) (V := bv V) (S := (X.take n).drop i) (i := i) (m := m) (k := k) (G := G - nm) (by rw [List.length_take]; omega) (by rw [bv_length]; exact hvl) (by omega)
      rw [him, show nm = i + k by omega]
      rw [show G - nm = G - (i + k) by omega] at h9
      rw [h9, bv_append, bv_append, bv_take, bv_drop, ← HT.out, List.take_take, show min i n = i by omega]
  have HG : Hid (w.grownBy W3 (some g)) := grown_some (grown_new ((grown_new G1 G2 (by omega)).trans (grown_drew W2)) G3 (by omega)) _
  have HQ : Hid (w.heap.size ≤ q) := by unfold Hid; omega
  have HR1 := Hid.mk' hr1
  have HR2 := Hid.mk' hr2
  have HR3 := Hid.mk' hr3
  clear hVt hglt B1 G1 B2 G2 B3 G3 X2 hV1 hSl hSn hXl hvl hr1 hr2 hr3 hp1 hp3 hp4 HB HX HT HV hl1 hl2 hq hk hG1 hG2 hnm him hroom hi hm hb hbase hnc
  have hr2 := HR2.out
  go_enter Tryz.func125, Tryz.ntmps125
  go_wp2_with (at_builtin; refine wl_app rfl 3 _ _ rfl _ _ rfl rfl HR1.out ?_)
  go_region_law (refine st_copy rfl _ _ rfl _ _ (by simp [Act.eval, Act.put]) (by simp [Act.eval, Act.put]) HR3.out ?_)
  go_wp2
  go_ret
  exact ⟨_, rfl, HO.out, HG.out, .inr ⟨q, rfl, HQ.out⟩⟩
end Go.Proofs.YtppefcnopkmhbaaGreatDoor

namespace Go.Proofs.YtppefcnopkmhbaaGreatDoor
open Go.RowKit

set_option maxRecDepth 8000
theorem insert_any (base : Nat) (v : Value) (n i : Nat) (T : List UInt8) (vo : Option Addr) (m vc : Nat) (V : List UInt8) (w : World) (H : Hid (w.ownsRow base 5 1 v n (bv T))) (HV : Hid (Tx w vo m vc V)) (HA : Hid (0 < m → ∀ a, vo = some a → a.block < base)) (hi : i ≤ n) (hm2 : m ≤ 140737488355328) (hb : n + m ≤ 150000000000000) (hbase : base ≤ w.heap.size) :
    Calls Tryz.prog 125 #[v, .int .i64 (i : Int), .slice vo m vc] w fun e w' => RepP base v (n + m) (T.take i ++ V ++ T.drop i) w e w' := by
  have hTl : T.length = n := by have := H.out.1; rw [bv_length] at this; omega
  have hvl := HV.out.len
  obtain ⟨ao, c, rfl⟩ := own_shape H.out
  by_cases h0 : m = 0
  · subst h0
    have : V = [] := List.eq_nil_of_length_eq_zero hvl
    subst this
    have e : T.take i ++ [] ++ T.drop i = T := by simp
    rw [e]
    exact ins_none base ao n c i T vo vc w H (by omega) hi
  · by_cases hin : i = n
    · subst hin
      have e : T.take i ++ V ++ T.drop i = T ++ V := by rw [List.take_of_length_le (by omega), List.drop_eq_nil_of_le (by omega), List.append_nil]
      rw [e]
      exact ins_end base ao i c T vo m vc V w H HV (by omega) hm2 hb hbase
    · obtain ⟨g, c', X, e, hg, hB, hX, hnc, hc, hT⟩ := blk_own H.out (by omega)
      simp only [Value.slice.injEq, true_and] at e
      obtain ⟨rfl, rfl⟩ := e
      obtain ⟨va, u, rfl, hcell⟩ := HV.out.ne (by omega)
      by_cases hroom : n + m ≤ c
      · exact ins_room base g n c i T X va m vc V w hB hX hT HV (by omega) (by omega) hroom hg hc (by have := HA.out (by omega) va rfl; unfold Hid; omega)
      · exact ins_grow base g n c i T X va m vc V w hB hX hT HV (by omega) (by omega) hnc (by omega) hb hbase
theorem so_lk (g n c lo k : Nat) {z : Int} (hn : n ≤ c) (hlo : lo ≤ n) (hz : z = (lo : Int)) (hk : k = n - lo) : ∃ a' c', (∀ W, (Instr.sliceAt 22 (.slice (some ⟨g, 0, none⟩) n c) (some (.int .i64 z)) none none).run Tryz.prog W = .ok (.slice (some a') k c') W) ∧ Pt g lo k a' := by
  subst hk; exact so_l g n c lo hn hlo hz
set_option maxHeartbeats 4000000 in
/-- nothing is taken out -/
theorem rep_ins (base : Nat) (v : Value) (n i : Nat) (T : List UInt8) (vo : Option Addr) (m vc : Nat) (V : List UInt8) (w : World) (H : Hid (w.ownsRow base 5 1 v n (bv T))) (HV : Hid (Tx w vo m vc V)) (HA : Hid (0 < m → ∀ a, vo = some a → a.block < base)) (hi : i ≤ n) (hm2 : m ≤ 140737488355328) (hb : n + m ≤ 150000000000000) (hbase : base ≤ w.heap.size) :
    Calls Tryz.prog 95 #[v, .int .i64 (i : Int), .int .i64 (i : Int), .slice vo m vc] w fun e w' => RepP base v (n + m) (T.take i ++ V ++ T.drop i) w e w' := by
  have C := Hid.mk' (insert_any base v n i T vo m vc V w H HV HA hi hm2 hb hbase)
  obtain ⟨ao, c, rfl, hT⟩ := own_tx H.out (by omega)
  obtain ⟨a1, c1, hs1, -⟩ := sl_lh hT (lo := i) (m := 0) hi
  have hs2 : ∀ W, (Instr.sliceAt 22 (.slice ao n c) (some (.int .i64 (i : Int))) (some (.int .i64 (i : Int))) none).run Tryz.prog W = .ok (.slice a1 0 c1) W := fun W => by have := hs1 W; simpa using this
  clear hT hs1 hm2 hb hbase hi HA HV H
  go_enter Tryz.func95, Tryz.ntmps95
  go_wp2_with fail
  refine C.out.mono ?_
  rintro e w1 ⟨v', rfl, h1⟩
  have H1 := Hid.mk' h1
  clear h1 C
  dsimp only
  go_wp2
  go_ret
  exact ⟨v', rfl, H1.out⟩
end Go.Proofs.YtppefcnopkmhbaaGreatDoor
