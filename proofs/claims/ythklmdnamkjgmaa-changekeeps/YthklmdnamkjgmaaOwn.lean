/- A row of one's own, cut, copied into, cleared, grown; two rows that lie apart do not overlap. -/
import Derived.Test.YthklmdnamkjgmaaSl
import Derived.Lib.SliceRun
import Derived.Lib.AppendZeros
import Derived.Lib.AppendZerosOnto
import Derived.Lib.Overlaps
import Derived.Laws.Externs
import Derived.Laws.IdiomCopy
namespace Go.Proofs.Ythklmdnamkjgmaa
open Go.RowKit

set_option maxRecDepth 8000
/-- where k cells from lo on lie -/
def Pt (g lo k : Nat) (a : Addr) : Prop := a = ⟨g, lo, none⟩ ∨ (k = 0 ∧ a = ⟨g, 0, none⟩)
theorem so_l (g n c lo : Nat) {z : Int} (hn : n ≤ c) (hlo : lo ≤ n) (hz : z = (lo : Int)) : ∃ a' c', (∀ W, (Instr.sliceAt 22 (.slice (some ⟨g, 0, none⟩) n c) (some (.int .i64 z)) none none).run Try.prog W = .ok (.slice (some a') (n - lo) c') W) ∧ Pt g lo (n - lo) a' := by
  subst hz
  have hr : ∀ W, (Instr.sliceAt 22 (.slice (some ⟨g, 0, none⟩) n c) (some (.int .i64 (lo : Int))) none none).run Try.prog W = .ok (sliced (some ⟨g, 0, none⟩) lo n c 1) W := fun W => by
    rw [run_sliceAt_slice W 22 _ _ _ _ und22, run_slice_l W 22 _ n c und22 .i64 (lo : Int) (by omega) (by omega), elem22, size5]
    rfl
  by_cases hcl : c = lo
  · refine ⟨⟨g, 0, none⟩, c - lo, fun W => ?_, .inr ⟨by omega, rfl⟩⟩
    rw [hr W]; unfold sliced; rw [if_pos hcl]
  · refine ⟨⟨g, lo, none⟩, c - lo, fun W => ?_, .inl rfl⟩
    rw [hr W]; unfold sliced; rw [if_neg hcl, Nat.mul_one]; simp [Addr.add]
    omega
theorem so_lh (g n c lo hi : Nat) {y z : Int} (hlo : lo ≤ hi) (hhi : hi ≤ c) (hy : y = (lo : Int)) (hz : z = (hi : Int)) : ∃ a' c', (∀ W, (Instr.sliceAt 22 (.slice (some ⟨g, 0, none⟩) n c) (some (.int .i64 y)) (some (.int .i64 z)) none).run Try.prog W = .ok (.slice (some a') (hi - lo) c') W) ∧ Pt g lo (hi - lo) a' := by
  subst hy hz
  have hr : ∀ W, (Instr.sliceAt 22 (.slice (some ⟨g, 0, none⟩) n c) (some (.int .i64 (lo : Int))) (some (.int .i64 (hi : Int))) none).run Try.prog W = .ok (sliced (some ⟨g, 0, none⟩) lo hi c 1) W := fun W => by
    rw [run_sliceAt_slice W 22 _ _ _ _ und22, run_slice_lh W 22 _ n c und22 .i64 .i64 (lo : Int) (hi : Int) (by omega) (by omega) (by omega), elem22, size5]
    rfl
  by_cases hcl : c = lo
  · refine ⟨⟨g, 0, none⟩, c - lo, fun W => ?_, .inr ⟨by omega, rfl⟩⟩
    rw [hr W]; unfold sliced; rw [if_pos hcl]
  · refine ⟨⟨g, lo, none⟩, c - lo, fun W => ?_, .inl rfl⟩
    rw [hr W]; unfold sliced; rw [if_neg hcl, Nat.mul_one]; simp [Addr.add]
    omega
theorem so_h (g n c hi : Nat) {z : Int} (hhi : hi ≤ c) (hz : z = (hi : Int)) : ∀ W, (Instr.sliceAt 22 (.slice (some ⟨g, 0, none⟩) n c) none (some (.int .i64 z)) none).run Try.prog W = .ok (.slice (some ⟨g, 0, none⟩) hi c) W := fun W => by
  subst hz
  rw [run_sliceAt_slice W 22 _ _ _ _ und22, run_slice_h W 22 _ n c und22 .i64 (hi : Int) (by omega) (by omega), elem22, size5]
  show Result.ok (sliced (some ⟨g, 0, none⟩) 0 (hi : Int).toNat c 1) W = _
  unfold sliced
  simp [Addr.add]
theorem srv_pt {W : World} {g lo k c : Nat} {a : Addr} {X : List Value} (h : Blk W g 5 X.toArray) (hp : Pt g lo k a) : Srv W (.slice (some a) k c) k ((X.drop lo).take k) := by
  refine .inr ⟨a, c, rfl, fun j t hj => ?_⟩
  have hjl := (List.getElem?_eq_some_iff.1 hj).1
  rw [List.length_take, List.length_drop] at hjl
  rw [List.getElem?_take_of_lt (by omega), List.getElem?_drop] at hj
  rcases hp with rfl | ⟨h0, _⟩
  · rw [add_none]
    exact h.cell (by rw [List.getElem?_toArray]; exact hj)
  · omega
/-- X with vs from lo on -/
def pat (X : List Value) (lo : Nat) (vs : List Value) : List Value := X.take lo ++ vs ++ X.drop (lo + vs.length)
theorem pat_length {X : List Value} {lo : Nat} {vs : List Value} (h : lo + vs.length ≤ X.length) : (pat X lo vs).length = X.length := by
  unfold pat
  rw [List.length_append, List.length_append, List.length_take, List.length_drop]; omega
theorem blk_pat {W : World} {g lo : Nat} {X vs : List Value} (h : Blk W g 5 X.toArray) (hk : lo + vs.length ≤ X.length) : Blk (W.setCells g lo vs) g 5 (pat X lo vs).toArray := by
  have e : X = X.take lo ++ (X.drop lo).take vs.length ++ X.drop (lo + vs.length) := by
    rw [List.append_assoc, ← List.drop_drop, List.take_append_drop, List.take_append_drop]
  have h1 : Blk W g 5 (X.take lo ++ (X.drop lo).take vs.length ++ X.drop (lo + vs.length)).toArray := by rw [← e]; exact h
  have := blk_setCells vs (X.take lo) ((X.drop lo).take vs.length) (X.drop (lo + vs.length)) (by rw [List.length_take, List.length_drop]; omega) h1
  rw [List.length_take, show min lo X.length = lo by omega] at this
  exact this
theorem blk_some {W : World} {g k : Nat} {X : List Value} (h : Blk W g 5 X.toArray) (hk : k < X.length) : (W.cell? ⟨g, k, none⟩).isSome = true := by
  rw [h.cell (v := X[k]) (by rw [List.getElem?_toArray, List.getElem?_eq_getElem hk])]; rfl
theorem size_of5 : (Try.prog.info? 5).map (·.size) = some 1 := by kernel_rfl
/-- copy into a row of one's own -/
theorem cp_own {W : World} {g lo dl dc m k : Nat} {X : List Value} {a : Addr} {u : Value} {news : List Value} (ty : Nat) (h : Blk W g 5 X.toArray) (hp : Pt g lo dl a) (hs : Srv W u m news) (hl : news.length = m) (h1 : ∀ v ∈ news.take k, v.oneCell' = true) (hk : k = min m dl) (hX : lo + dl ≤ X.length) :
    ∃ W', (Builtin.copy_ #[22, 22] ty #[.slice (some a) dl dc, u]).run Try.prog W = .ok (goInt k) W' ∧ Blk W' g 5 (pat X lo (news.take k)).toArray ∧ W.grownBy W' (some g) := by
  by_cases h0 : k = 0
  · refine ⟨W, ?_, ?_, ⟨rfl, rfl, rfl, Nat.le_refl _, fun _ _ _ => rfl⟩⟩
    · subst h0
      rcases hs with ⟨rfl, _, _⟩ | ⟨ad, c, rfl, _⟩
      · exact run_copy_none W 22 22 ty 5 _ _ dl dc 0 0 Try.underlying22 size_of5 (by simp)
      · exact run_copy_none W 22 22 ty 5 _ _ dl dc m c Try.underlying22 size_of5 hk.symm
    · rw [h0, List.take_zero]
      unfold pat
      simpa using h
  · have hkd : k ≤ dl ∧ k ≤ m := by subst hk; exact ⟨Nat.min_le_right _ _, Nat.min_le_left _ _⟩
    have hkl : (news.take k).length = k := by rw [List.length_take]; omega
    rcases hs with ⟨_, rfl, _⟩ | ⟨ad, c, rfl, hc⟩
    · omega
    · rcases hp with rfl | ⟨hd, _⟩
      · have := run_copy_cells (P := Try.prog) W 22 22 ty 5 g lo dl dc ad m c (news.take k) Try.underlying22 size_of5 (by rw [hkl]; exact hk)
          (fun j v hj => hc j v (by
            have := (List.getElem?_eq_some_iff.1 hj).1
            rw [hkl] at this
            rwa [List.getElem?_take_of_lt this] at hj))
          (fun j hj => blk_some h (by rw [hkl] at hj; omega)) (fun j _ => h.frozen _) h1
        rw [hkl] at this
        exact ⟨_, this, blk_pat h (by rw [hkl]; omega), grown_setCells _ _ _⟩
      · omega
/-- clear a part of a row of one's own -/
theorem cl_own {W : World} {g lo k c : Nat} {X : List Value} {a : Addr} (ty : Nat) (h : Blk W g 5 X.toArray) (hp : Pt g lo k a) (hk : 0 < k) (hX : lo + k ≤ X.length) :
    ∃ W', (Builtin.clear_ #[22] ty #[.slice (some a) k c]).run Try.prog W = .ok (.tuple #[]) W' ∧ Blk W' g 5 (pat X lo (List.replicate k (Value.int .u8 0))).toArray ∧ W.grownBy W' (some g) := by
  rcases hp with rfl | ⟨h0, _⟩
  · refine ⟨_, Lib.run_clear_slice W 22 5 ty (.int .u8 0) Try.underlying22 (fun w => by kernel_rfl) rfl rfl g lo k c hk (fun j hj => blk_some h (by omega)) (fun j _ => h.frozen _), blk_pat h (by simpa using hX), grown_setCells _ _ _⟩
  · omega
/-- append within a row of one's own -/
theorem ap_own {W : World} {g i c m : Nat} {X : List Value} {u : Value} {news : List Value} (ty : Nat) (h : Blk W g 5 X.toArray) (hX : X.length = c) (hc : c ≤ maxLen) (hi : i + m ≤ c) (hs : Srv W u m news) (hl : news.length = m) (h1 : ∀ v ∈ news, v.oneCell' = true) :
    ∃ W', (Builtin.append_ #[22, 22] ty #[.slice (some ⟨g, 0, none⟩) i c, u]).run Try.prog W = .ok (.slice (some ⟨g, 0, none⟩) (i + m) c) W' ∧ Blk W' g 5 (pat X i news).toArray ∧ W.grownBy W' (some g) := by
  obtain ⟨i5, hi5, hz5, hs5, hb5⟩ := info_parts info5
  rcases hs with ⟨rfl, rfl, rfl⟩ | ⟨ad, cc, rfl, hcell⟩
  · have hown : W.ownsRow g 5 1 (.slice (some ⟨g, 0, none⟩) i c) i (X.take i) := ⟨by rw [List.length_take]; omega, .inr ⟨g, c, X.toArray, rfl, Nat.le_refl _, h, by omega, hc, by simp [hX], by simp⟩⟩
    exact ⟨W, run_append_owned_none (P := Try.prog) (w := W) g 22 ty 5 i5 1 Try.underlying22 hi5 _ i _ hown, by unfold pat; simpa using h, ⟨rfl, rfl, rfl, Nat.le_refl _, fun _ _ _ => rfl⟩⟩
  · have hr := run_append_room (P := Try.prog) W 22 ty 5 i5 Try.underlying22 hi5 g i c X.toArray h ad m cc news (by rw [hs5]; omega) hcell h1 hi (by rw [hs5]; simp; omega)
    rw [hs5, Nat.mul_one] at hr
    exact ⟨_, hr, setRow_heap W g X.toArray _ 5 _ h, grown_setRow _⟩
theorem zero5 (k : Nat) : (Builtin.zeroCells (Value.int .u8 0).cells k).toList = List.replicate k (Value.int .u8 0) := by
  simp [Builtin.zeroCells, Value.cells]
  apply List.ext_getElem
  · simp
  · intro i h1 h2
    simp [Nat.mod_one]
/-- append of room to the head of a row, into a new row -/
theorem az_own {W : World} {g i n c k : Nat} {X : List Value} (ty : Nat) {z : Int} (h : Blk W g 5 X.toArray) (hX : X.length = c) (hi : i ≤ c) (hn : n = i + k) (hr : c < n) (hz : z = (k : Int)) (hb : n ≤ 150000000000000) :
    ∃ W' G, (Builtin.append_ #[22, 3] ty #[.slice (some ⟨g, 0, none⟩) i c, .int .i64 z]).run Try.prog W = .ok (.slice (some ⟨W.heap.size, 0, none⟩) n G) W' ∧ Blk W' W.heap.size 5 (X.take i ++ List.replicate k (Value.int .u8 0) ++ List.replicate (G - n) (Value.int .u8 0)).toArray ∧ W.grownBy W' none ∧ n ≤ G ∧ G ≤ maxLen := by
  obtain ⟨i5, hi5, hz5, hs5, hb5⟩ := info_parts info5
  subst hn hz
  have hold : (Builtin.firstCells i5.size i (.slice (some ⟨g, 0, none⟩) i c)).run Try.prog W.drew = .ok (X.take i).toArray W.drew := by
    rw [hs5]
    exact run_firstCells_some W.drew 1 i ⟨g, 0, none⟩ i c (X.take i) (by rw [List.length_take]; omega) (fun j v hj => by
      have hj' := (List.getElem?_eq_some_iff.1 hj).1
      rw [List.length_take] at hj'
      rw [List.getElem?_take_of_lt (by omega)] at hj
      rw [add_none, Nat.zero_add]
      exact Blk.cell (W := W.drew) h (by rw [List.getElem?_toArray]; exact hj))
  have hq := next_quarter hr
  have hrun := Lib.run_append_grow_zeros (P := Try.prog) W 22 3 ty 5 i5 (.int .u8 0) .i64 .i64 Try.underlying22 Try.underlying3 hi5 hz5 (some ⟨g, 0, none⟩) i c (X.take i) hold k (by omega) (by omega) hr (by omega) (by rw [hb5]; omega) (by rw [hb5]; omega)
  have hge := grownCap_ge W (i + k) c 5
  have hcm := grownCap_le_maxLen W (i + k) c 5 (by unfold maxLen; omega)
  refine ⟨_, _, hrun, ?_, ⟨rfl, rfl, rfl, by simp, fun k hk _ => heap_alloc_old W.drew _ hk⟩, hge, hcm⟩
  have e : ((X.take i).toArray ++ Builtin.zeroCells (Value.int .u8 0).cells k ++ Builtin.zeroCells (Value.int .u8 0).cells (grownCap W (i + k) c 5 - (i + k))) = (X.take i ++ List.replicate k (Value.int .u8 0) ++ List.replicate (grownCap W (i + k) c 5 - (i + k)) (Value.int .u8 0)).toArray := by
    apply Array.ext'
    simp only [Array.toList_append, zero5]
  rw [e]
  exact heap_alloc_new W.drew _
/-- a text and a row of one's own lie apart -/
theorem shape_tx {W : World} {a : Addr} {v : Value} (h : W.cell? a = some v) : ∃ t k, W.shape? a.block = some (t, k) ∧ k ≠ 0 := by
  unfold World.cell? at h
  unfold World.shape?
  cases hb : W.heap[a.block]? with
  | none => rw [hb] at h; cases h
  | some o =>
    rw [hb] at h
    cases o with
    | cells c e f =>
      refine ⟨e, c.size, rfl, fun h0 => ?_⟩
      dsimp only at h
      split at h
      · cases h
      · rw [Array.getElem?_eq_none (by omega)] at h; cases h
    | _ => cases h
theorem ovl_own {W : World} {g lo dl dc m c : Nat} {X : List Value} {a ad : Addr} {v : Value} (h : Blk W g 5 X.toArray) (hp : Pt g lo dl a) (hc : W.cell? ad = some v) (hne : ad.block ≠ g) :
    (callFunc 40 #[.slice (some a) dl dc, .slice (some ad) m c]).run Try.prog W = .ok (.value (.bool false)) W := by
  have hg : a.block = g := by rcases hp with rfl | ⟨_, rfl⟩ <;> rfl
  obtain ⟨t, k, hs, hk⟩ := shape_tx hc
  rw [run_callFunc_extern Try.func40 (by kernel_rfl) (by kernel_rfl) (by kernel_rfl) (e := Extern.SlicesOverlaps.overlaps #[22, 22] #[4]) (by kernel_rfl),
    Lib.run_overlaps_apart W 22 4 5 Try.underlying22 1 size5 a ad dl dc m c (by rw [hg]; exact fun e => hne e.symm) 5 t X.toArray.size k (by unfold World.shape?; rw [hg, show W.heap[g]? = _ from h]) hs hk (by obtain ⟨b, o, s⟩ := a; subst hg; rcases hp with e | ⟨_, e⟩ <;> (cases e; exact h.frozen _)) (by rw [hg]; exact h.frozen _)]
  rfl
theorem ovl_own2 {W : World} {g lo dl dc m c : Nat} {X : List Value} {a ad : Addr} {v : Value} (h : Blk W g 5 X.toArray) (hp : Pt g lo dl a) (hc : W.cell? ad = some v) (hne : ad.block ≠ g) :
    (callFunc 40 #[.slice (some ad) m c, .slice (some a) dl dc]).run Try.prog W = .ok (.value (.bool false)) W := by
  have hg : a.block = g := by rcases hp with rfl | ⟨_, rfl⟩ <;> rfl
  obtain ⟨t, k, hs, hk⟩ := shape_tx hc
  have hnb : (ad.block != a.block) = true := by rw [hg]; simpa using hne
  have hnb' : (ad.block == a.block) = false := by rw [hg]; simpa using hne
  have hfa : W.frozen? a = false := by obtain ⟨b, o, s⟩ := a; subst hg; rcases hp with e | ⟨_, e⟩ <;> (cases e; exact h.frozen _)
  have hfe : W.frozen? { block := a.block, off := X.length } = false := by rw [hg]; exact h.frozen _
  have hsa : W.shape? a.block = some (5, X.length) := by unfold World.shape?; rw [hg, show W.heap[g]? = _ from h]; simp
  rw [run_callFunc_extern Try.func40 (by kernel_rfl) (by kernel_rfl) (by kernel_rfl) (e := Extern.SlicesOverlaps.overlaps #[22, 22] #[4]) (by kernel_rfl)]
  delta Extern.SlicesOverlaps.overlaps Extern.SlicesOverlaps.overlaps.match_4
  dsimp only
  rw [dif_pos (show (#[Value.slice (some ad) m c, Value.slice (some a) dl dc] : Array Value).size = 2 from rfl)]
  delta Extern.SlicesOverlaps.overlaps._sparseCasesOn_4
  dsimp only [Array.getLit, List.getElem_toArray, List.getElem_cons_zero, List.getElem_cons_succ]
  by_cases h0 : m = 0 ∨ dl = 0 ∨ (1 : Nat) = 0
  · simp [run_underlying Try.underlying22]
    intro h1 h2
    omega
  · cases k with
    | zero => exact absurd rfl hk
    | succ k =>
      simp [run_underlying Try.underlying22, hnb, hnb', frozen, noView, viewAt, mayBeOne, stringish, shape, Sem.run, hs, hsa, hfa, hfe]
end Go.Proofs.Ythklmdnamkjgmaa
