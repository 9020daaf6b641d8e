/- The program's begins. -/
import Derived.Test.YtaahklapoppgaaaQm14
namespace Go.Proofs.Ytaahklapoppgaaa
open Go.RowKit

set_option maxRecDepth 8000
theorem yi41 {ops : Array Oper} {S : World → Prop} {op : Oper} {a : Act} {B o : Nat} {L : List Int} (hw : Region.wanted op (yielded ops a.tmps) = true) (x : Operand) (ho : op.op = .load 41 x) (hx : a.eval x = .pointer (some ⟨B, o, none⟩)) (hl : L.length = 27) (hS : ∀ w, S w → w.rangeAt B o (ml L)) : YieldsIf Try.prog ops S op (.agg (mk L)) a := yi_ld ty41 hw x ho hx (ml L) (by rw [ml_len, hl]) hS
theorem yi63 {ops : Array Oper} {S : World → Prop} {op : Oper} {a : Act} {B o : Nat} {r : Nr} (hw : Region.wanted op (yielded ops a.tmps) = true) (x : Operand) (ho : op.op = .load 63 x) (hx : a.eval x = .pointer (some ⟨B, o, none⟩)) (hl : r.cs.length = 58) (hS : ∀ w, S w → w.rangeAt B o r.cs) : YieldsIf Try.prog ops S op (.agg (nd r)) a := yi_ld ty63 hw x ho hx r.cs hl hS
theorem yi50 {ops : Array Oper} {S : World → Prop} {op : Oper} {a : Act} {B o : Nat} {v : Value} {c : Int} {L : List Int} (hw : Region.wanted op (yielded ops a.tmps) = true) (x : Operand) (ho : op.op = .load 50 x) (hx : a.eval x = .pointer (some ⟨B, o, none⟩)) (hl : L.length = 27) (hS : ∀ w, S w → w.rangeAt B o (cx v c L)) : YieldsIf Try.prog ops S op (.agg (cxa v c L)) a := yi_ld ty50 hw x ho hx (cx v c L) (cx_len hl) hS
theorem zero_dec (r : Nr) (h : r.E.length = r.en) : tb (Zero r.d) = (decide (r.par = 0) && decide ((r.en : Int) = 0) && decide (r.cur = 0) && decide (r.was = zm) && decide (r.made = zm)) := by
  refine tb_eq ?_
  have e : decide ((r.en : Int) = 0) = true ↔ r.E.map Er.d = [] := by
    rw [decide_eq_true_iff]
    cases hE : r.E with
    | nil => rw [hE] at h; simp at h; simp; omega
    | cons x l => rw [hE] at h; simp at h; simp; omega
  simp only [Bool.and_eq_true, e, decide_eq_true_iff]
  unfold Zero
  show ((((r.par = 0 ∧ _) ∧ r.cur = 0) ∧ _) ∧ _) ↔ (r.par = 0 ∧ r.E.map Er.d = [] ∧ r.cur = 0 ∧ r.was = zm ∧ r.made = zm)
  constructor
  · rintro ⟨⟨⟨⟨a, b⟩, c⟩, d⟩, e⟩; exact ⟨a, b, c, d, e⟩
  · rintro ⟨a, b, c, d, e⟩; exact ⟨⟨⟨⟨a, b⟩, c⟩, d⟩, e⟩
set_option maxHeartbeats 8000000 in
set_option linter.unusedSimpArgs false in
theorem begins_walk (Z : List Int) (hZ : Z.length = 27) (hz : ∀ w, (zeroValue 41).run Try.prog w = .ok (.agg (mk Z)) w) (_hb : ∀ w, (Instr.build 41 #[]).run Try.prog w = .ok (.agg (mk Z)) w) (r : Nr) (g o n c : Nat) (w : World) (hn : 0 < n) (hw : r.was.length = 27) (hm : r.made.length = 27) (HC : Hid (Nc w g o r)) :
    Calls Try.prog 47 #[.slice (some ⟨g, o, none⟩) n c] w fun e w' => e = .returned (.bool (decide (r.par = 0) && decide ((r.en : Int) = 0) && decide (r.cur = 0) && decide (r.was = Z) && decide (r.made = Z))) ∧ Below w.heap.size w w' := by
  have hn' : (0 : Int) < (n : Int) := by omega
  generalize hW1 : w.alloc (.cells (mk Z) 41) = W1
  have L1 : Hid (Below w.heap.size w W1) := by subst hW1; exact bAlloc (Below.refl _ _) _
  have K1 : Hid (Blk W1 w.heap.size 41 (mk Z)) := by subst hW1; exact Blk.new w 41 _
  have HG := mkH HC.out.lt
  have eq1 := fun w => eql41 w r.was Z hw hZ
  have eq2 := fun w => eql41 w r.made Z hm hZ
  obtain ⟨par, nxt, ea, en, ec, E, cur, was, made⟩ := r
  dsimp only at *
  generalize decide (was = Z) = q1 at *
  generalize decide (made = Z) = q2 at *
  by_cases hp : par = 0
  · rw [decide_eq_true hp]
    have hp1 : (par == 0) = true := by simpa using hp
    by_cases he : (en : Int) = 0
    · rw [decide_eq_true he]
      have he1 : ((en : Int) == 0) = true := by simpa using he
      by_cases hc : cur = 0
      · rw [decide_eq_true hc]
        have hc1 : (cur == 0) = true := by simpa using hc
        clear hp he hc
        cases q1 with
        | true =>
          cases q2 with
          | true =>
            go_enter Try.func47, Try.ntmps47
            go_upto_region 2 with (first | refine wl_st41 (B := w.heap.size) (o := 0) (L := Z) (.tmp 4) (.tmp 7) rfl rfl rfl rfl hZ (there41 hZ K1.out) ?_ | fail)
            have HD : Hid (Nc (W1.setCells w.heap.size 0 (ml Z)).drew g o ⟨par, nxt, ea, en, ec, E, cur, was, made⟩) := HC.out.keep (below_setCells (Nat.le_refl _) _ _ L1.out).drew
            have KD : Hid (Blk (W1.setCells w.heap.size 0 (ml Z)).drew w.heap.size 41 (mk Z)) := put41 hZ hZ K1.out
            have LD : Hid (Below w.heap.size w (W1.setCells w.heap.size 0 (ml Z)).drew) := (below_setCells (Nat.le_refl _) _ _ L1.out).drew
            clear hW1 L1 K1 HC
            refine wp_region_held (S := fun w' => Nc w' g o ⟨par, nxt, ea, en, ec, E, cur, was, made⟩ ∧ Blk w' w.heap.size 41 (mk Z)) (by kernel_rfl) ?_
            change wpAnyH _ _ _ _ _ _ _ _ (World.drew _)
            generalize (World.drew _) = V3 at *
            refine tk 0 (.pointer (some ⟨g, o, none⟩)) ⟨HD.out, KD.out⟩ ?_
            refine tk 1 (.pointer (some ⟨g, o, none⟩)) ⟨HD.out, KD.out⟩ ?_
            refine tk 2 (.pointer (some ⟨g, o, none⟩)) ⟨HD.out, KD.out⟩ ?_
            refine ta 3 (.int .i64 par) rfl (Or.inl ⟨by rfl, fun w9 h9 => by obtain ⟨⟨h1, h2, h3, h4, h5, h6, h7⟩, -⟩ := h9; go_simp⟩) ⟨HD.out, KD.out⟩ ?_
            try simp only [Act.put, jj1, jj2, jj3, jj4, jj5, jj6]
            refine tk 4 (.bool true) ⟨HD.out, KD.out⟩ ?_
            refine tk 5 (.bool true) ⟨HD.out, KD.out⟩ ?_
            refine tk 6 (.pointer (some ⟨g, o, none⟩)) ⟨HD.out, KD.out⟩ ?_
            refine tk 7 (.pointer (some ⟨g, o, none⟩)) ⟨HD.out, KD.out⟩ ?_
            try simp only [Act.put, jj1, jj2, jj3, jj4, jj5, jj6]
            refine tk 8 (.pointer (some ⟨g, o + 2, none⟩)) ⟨HD.out, KD.out⟩ ?_
            refine ta 9 (.slice ea en ec) rfl (Or.inl ⟨by rfl, fun w9 h9 => by obtain ⟨⟨h1, h2, h3, h4, h5, h6, h7⟩, -⟩ := h9; go_simp⟩) ⟨HD.out, KD.out⟩ ?_
            refine tk 10 (.int .i64 ((en : Nat) : Int)) ⟨HD.out, KD.out⟩ ?_
            refine tk 11 (.bool true) ⟨HD.out, KD.out⟩ ?_
            try simp only [Act.put, jj1, jj2, jj3, jj4, jj5, jj6]
            refine tk 12 (.bool true) ⟨HD.out, KD.out⟩ ?_
            refine tk 13 (.bool true) ⟨HD.out, KD.out⟩ ?_
            refine tk 14 (.pointer (some ⟨g, o, none⟩)) ⟨HD.out, KD.out⟩ ?_
            refine tk 15 (.pointer (some ⟨g, o, none⟩)) ⟨HD.out, KD.out⟩ ?_
            try simp only [Act.put, jj1, jj2, jj3, jj4, jj5, jj6]
            refine tk 16 (.pointer (some ⟨g, o + 3, none⟩)) ⟨HD.out, KD.out⟩ ?_
            refine ta 17 (.int .i64 cur) rfl (Or.inl ⟨by rfl, fun w9 h9 => by obtain ⟨⟨h1, h2, h3, h4, h5, h6, h7⟩, -⟩ := h9; go_simp⟩) ⟨HD.out, KD.out⟩ ?_
            refine tk 18 (.bool true) ⟨HD.out, KD.out⟩ ?_
            refine tk 19 (.bool true) ⟨HD.out, KD.out⟩ ?_
            try simp only [Act.put, jj1, jj2, jj3, jj4, jj5, jj6]
            refine tk 20 (.bool true) ⟨HD.out, KD.out⟩ ?_
            refine tk 21 (.pointer (some ⟨g, o, none⟩)) ⟨HD.out, KD.out⟩ ?_
            refine tk 22 (.pointer (some ⟨g, o, none⟩)) ⟨HD.out, KD.out⟩ ?_
            refine tk 23 (.pointer (some ⟨g, o + 4, none⟩)) ⟨HD.out, KD.out⟩ ?_
            try simp only [Act.put, jj1, jj2, jj3, jj4, jj5, jj6]
            refine ta 24 (.agg (mk was)) rfl (yi41 rfl (.tmp 31) rfl rfl hw (fun _ h => h.1.m1)) ⟨HD.out, KD.out⟩ ?_
            refine ta 25 (.agg (mk Z)) rfl (yi41 rfl (.tmp 4) rfl rfl hZ (fun _ h => range_blk h.2)) ⟨HD.out, KD.out⟩ ?_
            refine tk 26 (.bool true) ⟨HD.out, KD.out⟩ ?_
            refine tk 27 (.bool true) ⟨HD.out, KD.out⟩ ?_
            try simp only [Act.put, jj1, jj2, jj3, jj4, jj5, jj6]
            refine tk 28 (.bool true) ⟨HD.out, KD.out⟩ ?_
            refine tk 29 (.pointer (some ⟨g, o, none⟩)) ⟨HD.out, KD.out⟩ ?_
            refine tk 30 (.pointer (some ⟨g, o, none⟩)) ⟨HD.out, KD.out⟩ ?_
            refine tk 31 (.pointer (some ⟨g, o + 31, none⟩)) ⟨HD.out, KD.out⟩ ?_
            try simp only [Act.put, jj1, jj2, jj3, jj4, jj5, jj6]
            refine ta 32 (.agg (mk made)) rfl (yi41 rfl (.tmp 39) rfl rfl hm (fun _ h => h.1.m2)) ⟨HD.out, KD.out⟩ ?_
            refine ta 33 (.agg (mk Z)) rfl (yi41 rfl (.tmp 4) rfl rfl hZ (fun _ h => range_blk h.2)) ⟨HD.out, KD.out⟩ ?_
            refine tk 34 (.bool true) ⟨HD.out, KD.out⟩ ?_
            refine tk 35 (.bool true) ⟨HD.out, KD.out⟩ ?_
            try simp only [Act.put, jj1, jj2, jj3, jj4, jj5, jj6]
            refine tk 36 (.bool true) ⟨HD.out, KD.out⟩ ?_
            try simp only [Act.put, jj1, jj2, jj3, jj4, jj5, jj6]
            refine wpAnyH_done (by kernel_rfl) ?_ _
            go_wp2
            go_ret
            exact ⟨by rfl, LD.out⟩
          | false =>
            go_enter Try.func47, Try.ntmps47
            go_upto_region 2 with (first | refine wl_st41 (B := w.heap.size) (o := 0) (L := Z) (.tmp 4) (.tmp 7) rfl rfl rfl rfl hZ (there41 hZ K1.out) ?_ | fail)
            have HD : Hid (Nc (W1.setCells w.heap.size 0 (ml Z)).drew g o ⟨par, nxt, ea, en, ec, E, cur, was, made⟩) := HC.out.keep (below_setCells (Nat.le_refl _) _ _ L1.out).drew
            have KD : Hid (Blk (W1.setCells w.heap.size 0 (ml Z)).drew w.heap.size 41 (mk Z)) := put41 hZ hZ K1.out
            have LD : Hid (Below w.heap.size w (W1.setCells w.heap.size 0 (ml Z)).drew) := (below_setCells (Nat.le_refl _) _ _ L1.out).drew
            clear hW1 L1 K1 HC
            refine wp_region_held (S := fun w' => Nc w' g o ⟨par, nxt, ea, en, ec, E, cur, was, made⟩ ∧ Blk w' w.heap.size 41 (mk Z)) (by kernel_rfl) ?_
            change wpAnyH _ _ _ _ _ _ _ _ (World.drew _)
            generalize (World.drew _) = V3 at *
            refine tk 0 (.pointer (some ⟨g, o, none⟩)) ⟨HD.out, KD.out⟩ ?_
            refine tk 1 (.pointer (some ⟨g, o, none⟩)) ⟨HD.out, KD.out⟩ ?_
            refine tk 2 (.pointer (some ⟨g, o, none⟩)) ⟨HD.out, KD.out⟩ ?_
            refine ta 3 (.int .i64 par) rfl (Or.inl ⟨by rfl, fun w9 h9 => by obtain ⟨⟨h1, h2, h3, h4, h5, h6, h7⟩, -⟩ := h9; go_simp⟩) ⟨HD.out, KD.out⟩ ?_
            try simp only [Act.put, jj1, jj2, jj3, jj4, jj5, jj6]
            refine tk 4 (.bool true) ⟨HD.out, KD.out⟩ ?_
            refine tk 5 (.bool true) ⟨HD.out, KD.out⟩ ?_
            refine tk 6 (.pointer (some ⟨g, o, none⟩)) ⟨HD.out, KD.out⟩ ?_
            refine tk 7 (.pointer (some ⟨g, o, none⟩)) ⟨HD.out, KD.out⟩ ?_
            try simp only [Act.put, jj1, jj2, jj3, jj4, jj5, jj6]
            refine tk 8 (.pointer (some ⟨g, o + 2, none⟩)) ⟨HD.out, KD.out⟩ ?_
            refine ta 9 (.slice ea en ec) rfl (Or.inl ⟨by rfl, fun w9 h9 => by obtain ⟨⟨h1, h2, h3, h4, h5, h6, h7⟩, -⟩ := h9; go_simp⟩) ⟨HD.out, KD.out⟩ ?_
            refine tk 10 (.int .i64 ((en : Nat) : Int)) ⟨HD.out, KD.out⟩ ?_
            refine tk 11 (.bool true) ⟨HD.out, KD.out⟩ ?_
            try simp only [Act.put, jj1, jj2, jj3, jj4, jj5, jj6]
            refine tk 12 (.bool true) ⟨HD.out, KD.out⟩ ?_
            refine tk 13 (.bool true) ⟨HD.out, KD.out⟩ ?_
            refine tk 14 (.pointer (some ⟨g, o, none⟩)) ⟨HD.out, KD.out⟩ ?_
            refine tk 15 (.pointer (some ⟨g, o, none⟩)) ⟨HD.out, KD.out⟩ ?_
            try simp only [Act.put, jj1, jj2, jj3, jj4, jj5, jj6]
            refine tk 16 (.pointer (some ⟨g, o + 3, none⟩)) ⟨HD.out, KD.out⟩ ?_
            refine ta 17 (.int .i64 cur) rfl (Or.inl ⟨by rfl, fun w9 h9 => by obtain ⟨⟨h1, h2, h3, h4, h5, h6, h7⟩, -⟩ := h9; go_simp⟩) ⟨HD.out, KD.out⟩ ?_
            refine tk 18 (.bool true) ⟨HD.out, KD.out⟩ ?_
            refine tk 19 (.bool true) ⟨HD.out, KD.out⟩ ?_
            try simp only [Act.put, jj1, jj2, jj3, jj4, jj5, jj6]
            refine tk 20 (.bool true) ⟨HD.out, KD.out⟩ ?_
            refine tk 21 (.pointer (some ⟨g, o, none⟩)) ⟨HD.out, KD.out⟩ ?_
            refine tk 22 (.pointer (some ⟨g, o, none⟩)) ⟨HD.out, KD.out⟩ ?_
            refine tk 23 (.pointer (some ⟨g, o + 4, none⟩)) ⟨HD.out, KD.out⟩ ?_
            try simp only [Act.put, jj1, jj2, jj3, jj4, jj5, jj6]
            refine ta 24 (.agg (mk was)) rfl (yi41 rfl (.tmp 31) rfl rfl hw (fun _ h => h.1.m1)) ⟨HD.out, KD.out⟩ ?_
            refine ta 25 (.agg (mk Z)) rfl (yi41 rfl (.tmp 4) rfl rfl hZ (fun _ h => range_blk h.2)) ⟨HD.out, KD.out⟩ ?_
            refine tk 26 (.bool true) ⟨HD.out, KD.out⟩ ?_
            refine tk 27 (.bool true) ⟨HD.out, KD.out⟩ ?_
            try simp only [Act.put, jj1, jj2, jj3, jj4, jj5, jj6]
            refine tk 28 (.bool true) ⟨HD.out, KD.out⟩ ?_
            refine tk 29 (.pointer (some ⟨g, o, none⟩)) ⟨HD.out, KD.out⟩ ?_
            refine tk 30 (.pointer (some ⟨g, o, none⟩)) ⟨HD.out, KD.out⟩ ?_
            refine tk 31 (.pointer (some ⟨g, o + 31, none⟩)) ⟨HD.out, KD.out⟩ ?_
            try simp only [Act.put, jj1, jj2, jj3, jj4, jj5, jj6]
            refine ta 32 (.agg (mk made)) rfl (yi41 rfl (.tmp 39) rfl rfl hm (fun _ h => h.1.m2)) ⟨HD.out, KD.out⟩ ?_
            refine ta 33 (.agg (mk Z)) rfl (yi41 rfl (.tmp 4) rfl rfl hZ (fun _ h => range_blk h.2)) ⟨HD.out, KD.out⟩ ?_
            refine tk 34 (.bool false) ⟨HD.out, KD.out⟩ ?_
            refine tk 35 (.bool false) ⟨HD.out, KD.out⟩ ?_
            try simp only [Act.put, jj1, jj2, jj3, jj4, jj5, jj6]
            refine tk 36 (.bool false) ⟨HD.out, KD.out⟩ ?_
            try simp only [Act.put, jj1, jj2, jj3, jj4, jj5, jj6]
            refine wpAnyH_done (by kernel_rfl) ?_ _
            go_wp2
            go_ret
            exact ⟨by rfl, LD.out⟩
        | false =>
          go_enter Try.func47, Try.ntmps47
          go_upto_region 2 with (first | refine wl_st41 (B := w.heap.size) (o := 0) (L := Z) (.tmp 4) (.tmp 7) rfl rfl rfl rfl hZ (there41 hZ K1.out) ?_ | fail)
          have HD : Hid (Nc (W1.setCells w.heap.size 0 (ml Z)).drew g o ⟨par, nxt, ea, en, ec, E, cur, was, made⟩) := HC.out.keep (below_setCells (Nat.le_refl _) _ _ L1.out).drew
          have KD : Hid (Blk (W1.setCells w.heap.size 0 (ml Z)).drew w.heap.size 41 (mk Z)) := put41 hZ hZ K1.out
          have LD : Hid (Below w.heap.size w (W1.setCells w.heap.size 0 (ml Z)).drew) := (below_setCells (Nat.le_refl _) _ _ L1.out).drew
          clear hW1 L1 K1 HC
          refine wp_region_held (S := fun w' => Nc w' g o ⟨par, nxt, ea, en, ec, E, cur, was, made⟩ ∧ Blk w' w.heap.size 41 (mk Z)) (by kernel_rfl) ?_
          change wpAnyH _ _ _ _ _ _ _ _ (World.drew _)
          generalize (World.drew _) = V3 at *
          refine tk 0 (.pointer (some ⟨g, o, none⟩)) ⟨HD.out, KD.out⟩ ?_
          refine tk 1 (.pointer (some ⟨g, o, none⟩)) ⟨HD.out, KD.out⟩ ?_
          refine tk 2 (.pointer (some ⟨g, o, none⟩)) ⟨HD.out, KD.out⟩ ?_
          refine ta 3 (.int .i64 par) rfl (Or.inl ⟨by rfl, fun w9 h9 => by obtain ⟨⟨h1, h2, h3, h4, h5, h6, h7⟩, -⟩ := h9; go_simp⟩) ⟨HD.out, KD.out⟩ ?_
          try simp only [Act.put, jj1, jj2, jj3, jj4, jj5, jj6]
          refine tk 4 (.bool true) ⟨HD.out, KD.out⟩ ?_
          refine tk 5 (.bool true) ⟨HD.out, KD.out⟩ ?_
          refine tk 6 (.pointer (some ⟨g, o, none⟩)) ⟨HD.out, KD.out⟩ ?_
          refine tk 7 (.pointer (some ⟨g, o, none⟩)) ⟨HD.out, KD.out⟩ ?_
          try simp only [Act.put, jj1, jj2, jj3, jj4, jj5, jj6]
          refine tk 8 (.pointer (some ⟨g, o + 2, none⟩)) ⟨HD.out, KD.out⟩ ?_
          refine ta 9 (.slice ea en ec) rfl (Or.inl ⟨by rfl, fun w9 h9 => by obtain ⟨⟨h1, h2, h3, h4, h5, h6, h7⟩, -⟩ := h9; go_simp⟩) ⟨HD.out, KD.out⟩ ?_
          refine tk 10 (.int .i64 ((en : Nat) : Int)) ⟨HD.out, KD.out⟩ ?_
          refine tk 11 (.bool true) ⟨HD.out, KD.out⟩ ?_
          try simp only [Act.put, jj1, jj2, jj3, jj4, jj5, jj6]
          refine tk 12 (.bool true) ⟨HD.out, KD.out⟩ ?_
          refine tk 13 (.bool true) ⟨HD.out, KD.out⟩ ?_
          refine tk 14 (.pointer (some ⟨g, o, none⟩)) ⟨HD.out, KD.out⟩ ?_
          refine tk 15 (.pointer (some ⟨g, o, none⟩)) ⟨HD.out, KD.out⟩ ?_
          try simp only [Act.put, jj1, jj2, jj3, jj4, jj5, jj6]
          refine tk 16 (.pointer (some ⟨g, o + 3, none⟩)) ⟨HD.out, KD.out⟩ ?_
          refine ta 17 (.int .i64 cur) rfl (Or.inl ⟨by rfl, fun w9 h9 => by obtain ⟨⟨h1, h2, h3, h4, h5, h6, h7⟩, -⟩ := h9; go_simp⟩) ⟨HD.out, KD.out⟩ ?_
          refine tk 18 (.bool true) ⟨HD.out, KD.out⟩ ?_
          refine tk 19 (.bool true) ⟨HD.out, KD.out⟩ ?_
          try simp only [Act.put, jj1, jj2, jj3, jj4, jj5, jj6]
          refine tk 20 (.bool true) ⟨HD.out, KD.out⟩ ?_
          refine tk 21 (.pointer (some ⟨g, o, none⟩)) ⟨HD.out, KD.out⟩ ?_
          refine tk 22 (.pointer (some ⟨g, o, none⟩)) ⟨HD.out, KD.out⟩ ?_
          refine tk 23 (.pointer (some ⟨g, o + 4, none⟩)) ⟨HD.out, KD.out⟩ ?_
          try simp only [Act.put, jj1, jj2, jj3, jj4, jj5, jj6]
          refine ta 24 (.agg (mk was)) rfl (yi41 rfl (.tmp 31) rfl rfl hw (fun _ h => h.1.m1)) ⟨HD.out, KD.out⟩ ?_
          refine ta 25 (.agg (mk Z)) rfl (yi41 rfl (.tmp 4) rfl rfl hZ (fun _ h => range_blk h.2)) ⟨HD.out, KD.out⟩ ?_
          refine tk 26 (.bool false) ⟨HD.out, KD.out⟩ ?_
          refine tk 27 (.bool false) ⟨HD.out, KD.out⟩ ?_
          try simp only [Act.put, jj1, jj2, jj3, jj4, jj5, jj6]
          refine tk 28 (.bool false) ⟨HD.out, KD.out⟩ ?_
          refine ta 29 undef rfl (Or.inr ⟨by rfl, rfl⟩) ⟨HD.out, KD.out⟩ ?_
          refine ta 30 undef rfl (Or.inr ⟨by rfl, rfl⟩) ⟨HD.out, KD.out⟩ ?_
          refine ta 31 undef rfl (Or.inr ⟨by rfl, rfl⟩) ⟨HD.out, KD.out⟩ ?_
          try simp only [Act.put, jj1, jj2, jj3, jj4, jj5, jj6]
          refine ta 32 undef rfl (Or.inr ⟨by rfl, rfl⟩) ⟨HD.out, KD.out⟩ ?_
          refine ta 33 undef rfl (Or.inr ⟨by rfl, rfl⟩) ⟨HD.out, KD.out⟩ ?_
          refine ta 34 undef rfl (Or.inr ⟨by rfl, rfl⟩) ⟨HD.out, KD.out⟩ ?_
          refine tk 35 (.bool false) ⟨HD.out, KD.out⟩ ?_
          try simp only [Act.put, jj1, jj2, jj3, jj4, jj5, jj6]
          refine tk 36 (.bool false) ⟨HD.out, KD.out⟩ ?_
          try simp only [Act.put, jj1, jj2, jj3, jj4, jj5, jj6]
          refine wpAnyH_done (by kernel_rfl) ?_ _
          go_wp2
          go_ret
          exact ⟨by rfl, LD.out⟩
      · rw [decide_eq_false hc]
        have hc1 : (cur == 0) = false := by simpa using hc
        clear hp he hc
        go_enter Try.func47, Try.ntmps47
        go_upto_region 2 with (first | refine wl_st41 (B := w.heap.size) (o := 0) (L := Z) (.tmp 4) (.tmp 7) rfl rfl rfl rfl hZ (there41 hZ K1.out) ?_ | fail)
        have HD : Hid (Nc (W1.setCells w.heap.size 0 (ml Z)).drew g o ⟨par, nxt, ea, en, ec, E, cur, was, made⟩) := HC.out.keep (below_setCells (Nat.le_refl _) _ _ L1.out).drew
        have KD : Hid (Blk (W1.setCells w.heap.size 0 (ml Z)).drew w.heap.size 41 (mk Z)) := put41 hZ hZ K1.out
        have LD : Hid (Below w.heap.size w (W1.setCells w.heap.size 0 (ml Z)).drew) := (below_setCells (Nat.le_refl _) _ _ L1.out).drew
        clear hW1 L1 K1 HC
        refine wp_region_held (S := fun w' => Nc w' g o ⟨par, nxt, ea, en, ec, E, cur, was, made⟩ ∧ Blk w' w.heap.size 41 (mk Z)) (by kernel_rfl) ?_
        change wpAnyH _ _ _ _ _ _ _ _ (World.drew _)
        generalize (World.drew _) = V3 at *
        refine tk 0 (.pointer (some ⟨g, o, none⟩)) ⟨HD.out, KD.out⟩ ?_
        refine tk 1 (.pointer (some ⟨g, o, none⟩)) ⟨HD.out, KD.out⟩ ?_
        refine tk 2 (.pointer (some ⟨g, o, none⟩)) ⟨HD.out, KD.out⟩ ?_
        refine ta 3 (.int .i64 par) rfl (Or.inl ⟨by rfl, fun w9 h9 => by obtain ⟨⟨h1, h2, h3, h4, h5, h6, h7⟩, -⟩ := h9; go_simp⟩) ⟨HD.out, KD.out⟩ ?_
        try simp only [Act.put, jj1, jj2, jj3, jj4, jj5, jj6]
        refine tk 4 (.bool true) ⟨HD.out, KD.out⟩ ?_
        refine tk 5 (.bool true) ⟨HD.out, KD.out⟩ ?_
        refine tk 6 (.pointer (some ⟨g, o, none⟩)) ⟨HD.out, KD.out⟩ ?_
        refine tk 7 (.pointer (some ⟨g, o, none⟩)) ⟨HD.out, KD.out⟩ ?_
        try simp only [Act.put, jj1, jj2, jj3, jj4, jj5, jj6]
        refine tk 8 (.pointer (some ⟨g, o + 2, none⟩)) ⟨HD.out, KD.out⟩ ?_
        refine ta 9 (.slice ea en ec) rfl (Or.inl ⟨by rfl, fun w9 h9 => by obtain ⟨⟨h1, h2, h3, h4, h5, h6, h7⟩, -⟩ := h9; go_simp⟩) ⟨HD.out, KD.out⟩ ?_
        refine tk 10 (.int .i64 ((en : Nat) : Int)) ⟨HD.out, KD.out⟩ ?_
        refine tk 11 (.bool true) ⟨HD.out, KD.out⟩ ?_
        try simp only [Act.put, jj1, jj2, jj3, jj4, jj5, jj6]
        refine tk 12 (.bool true) ⟨HD.out, KD.out⟩ ?_
        refine tk 13 (.bool true) ⟨HD.out, KD.out⟩ ?_
        refine tk 14 (.pointer (some ⟨g, o, none⟩)) ⟨HD.out, KD.out⟩ ?_
        refine tk 15 (.pointer (some ⟨g, o, none⟩)) ⟨HD.out, KD.out⟩ ?_
        try simp only [Act.put, jj1, jj2, jj3, jj4, jj5, jj6]
        refine tk 16 (.pointer (some ⟨g, o + 3, none⟩)) ⟨HD.out, KD.out⟩ ?_
        refine ta 17 (.int .i64 cur) rfl (Or.inl ⟨by rfl, fun w9 h9 => by obtain ⟨⟨h1, h2, h3, h4, h5, h6, h7⟩, -⟩ := h9; go_simp⟩) ⟨HD.out, KD.out⟩ ?_
        refine tk 18 (.bool false) ⟨HD.out, KD.out⟩ ?_
        refine tk 19 (.bool false) ⟨HD.out, KD.out⟩ ?_
        try simp only [Act.put, jj1, jj2, jj3, jj4, jj5, jj6]
        refine tk 20 (.bool false) ⟨HD.out, KD.out⟩ ?_
        refine ta 21 undef rfl (Or.inr ⟨by rfl, rfl⟩) ⟨HD.out, KD.out⟩ ?_
        refine ta 22 undef rfl (Or.inr ⟨by rfl, rfl⟩) ⟨HD.out, KD.out⟩ ?_
        refine ta 23 undef rfl (Or.inr ⟨by rfl, rfl⟩) ⟨HD.out, KD.out⟩ ?_
        try simp only [Act.put, jj1, jj2, jj3, jj4, jj5, jj6]
        refine ta 24 undef rfl (Or.inr ⟨by rfl, rfl⟩) ⟨HD.out, KD.out⟩ ?_
        refine ta 25 undef rfl (Or.inr ⟨by rfl, rfl⟩) ⟨HD.out, KD.out⟩ ?_
        refine ta 26 undef rfl (Or.inr ⟨by rfl, rfl⟩) ⟨HD.out, KD.out⟩ ?_
        refine tk 27 (.bool false) ⟨HD.out, KD.out⟩ ?_
        try simp only [Act.put, jj1, jj2, jj3, jj4, jj5, jj6]
        refine tk 28 (.bool false) ⟨HD.out, KD.out⟩ ?_
        refine ta 29 undef rfl (Or.inr ⟨by rfl, rfl⟩) ⟨HD.out, KD.out⟩ ?_
        refine ta 30 undef rfl (Or.inr ⟨by rfl, rfl⟩) ⟨HD.out, KD.out⟩ ?_
        refine ta 31 undef rfl (Or.inr ⟨by rfl, rfl⟩) ⟨HD.out, KD.out⟩ ?_
        try simp only [Act.put, jj1, jj2, jj3, jj4, jj5, jj6]
        refine ta 32 undef rfl (Or.inr ⟨by rfl, rfl⟩) ⟨HD.out, KD.out⟩ ?_
        refine ta 33 undef rfl (Or.inr ⟨by rfl, rfl⟩) ⟨HD.out, KD.out⟩ ?_
        refine ta 34 undef rfl (Or.inr ⟨by rfl, rfl⟩) ⟨HD.out, KD.out⟩ ?_
        refine tk 35 (.bool false) ⟨HD.out, KD.out⟩ ?_
        try simp only [Act.put, jj1, jj2, jj3, jj4, jj5, jj6]
        refine tk 36 (.bool false) ⟨HD.out, KD.out⟩ ?_
        try simp only [Act.put, jj1, jj2, jj3, jj4, jj5, jj6]
        refine wpAnyH_done (by kernel_rfl) ?_ _
        go_wp2
        go_ret
        exact ⟨by rfl, LD.out⟩
    · rw [decide_eq_false he]
      have he1 : ((en : Int) == 0) = false := by simpa using he
      clear hp he
      go_enter Try.func47, Try.ntmps47
      go_upto_region 2 with (first | refine wl_st41 (B := w.heap.size) (o := 0) (L := Z) (.tmp 4) (.tmp 7) rfl rfl rfl rfl hZ (there41 hZ K1.out) ?_ | fail)
      have HD : Hid (Nc (W1.setCells w.heap.size 0 (ml Z)).drew g o ⟨par, nxt, ea, en, ec, E, cur, was, made⟩) := HC.out.keep (below_setCells (Nat.le_refl _) _ _ L1.out).drew
      have KD : Hid (Blk (W1.setCells w.heap.size 0 (ml Z)).drew w.heap.size 41 (mk Z)) := put41 hZ hZ K1.out
      have LD : Hid (Below w.heap.size w (W1.setCells w.heap.size 0 (ml Z)).drew) := (below_setCells (Nat.le_refl _) _ _ L1.out).drew
      clear hW1 L1 K1 HC
      refine wp_region_held (S := fun w' => Nc w' g o ⟨par, nxt, ea, en, ec, E, cur, was, made⟩ ∧ Blk w' w.heap.size 41 (mk Z)) (by kernel_rfl) ?_
      change wpAnyH _ _ _ _ _ _ _ _ (World.drew _)
      generalize (World.drew _) = V3 at *
      refine tk 0 (.pointer (some ⟨g, o, none⟩)) ⟨HD.out, KD.out⟩ ?_
      refine tk 1 (.pointer (some ⟨g, o, none⟩)) ⟨HD.out, KD.out⟩ ?_
      refine tk 2 (.pointer (some ⟨g, o, none⟩)) ⟨HD.out, KD.out⟩ ?_
      refine ta 3 (.int .i64 par) rfl (Or.inl ⟨by rfl, fun w9 h9 => by obtain ⟨⟨h1, h2, h3, h4, h5, h6, h7⟩, -⟩ := h9; go_simp⟩) ⟨HD.out, KD.out⟩ ?_
      try simp only [Act.put, jj1, jj2, jj3, jj4, jj5, jj6]
      refine tk 4 (.bool true) ⟨HD.out, KD.out⟩ ?_
      refine tk 5 (.bool true) ⟨HD.out, KD.out⟩ ?_
      refine tk 6 (.pointer (some ⟨g, o, none⟩)) ⟨HD.out, KD.out⟩ ?_
      refine tk 7 (.pointer (some ⟨g, o, none⟩)) ⟨HD.out, KD.out⟩ ?_
      try simp only [Act.put, jj1, jj2, jj3, jj4, jj5, jj6]
      refine tk 8 (.pointer (some ⟨g, o + 2, none⟩)) ⟨HD.out, KD.out⟩ ?_
      refine ta 9 (.slice ea en ec) rfl (Or.inl ⟨by rfl, fun w9 h9 => by obtain ⟨⟨h1, h2, h3, h4, h5, h6, h7⟩, -⟩ := h9; go_simp⟩) ⟨HD.out, KD.out⟩ ?_
      refine tk 10 (.int .i64 ((en : Nat) : Int)) ⟨HD.out, KD.out⟩ ?_
      refine tk 11 (.bool false) ⟨HD.out, KD.out⟩ ?_
      try simp only [Act.put, jj1, jj2, jj3, jj4, jj5, jj6]
      refine tk 12 (.bool false) ⟨HD.out, KD.out⟩ ?_
      refine tk 13 (.bool false) ⟨HD.out, KD.out⟩ ?_
      refine ta 14 undef rfl (Or.inr ⟨by rfl, rfl⟩) ⟨HD.out, KD.out⟩ ?_
      refine ta 15 undef rfl (Or.inr ⟨by rfl, rfl⟩) ⟨HD.out, KD.out⟩ ?_
      try simp only [Act.put, jj1, jj2, jj3, jj4, jj5, jj6]
      refine ta 16 undef rfl (Or.inr ⟨by rfl, rfl⟩) ⟨HD.out, KD.out⟩ ?_
      refine ta 17 undef rfl (Or.inr ⟨by rfl, rfl⟩) ⟨HD.out, KD.out⟩ ?_
      refine ta 18 undef rfl (Or.inr ⟨by rfl, rfl⟩) ⟨HD.out, KD.out⟩ ?_
      refine tk 19 (.bool false) ⟨HD.out, KD.out⟩ ?_
      try simp only [Act.put, jj1, jj2, jj3, jj4, jj5, jj6]
      refine tk 20 (.bool false) ⟨HD.out, KD.out⟩ ?_
      refine ta 21 undef rfl (Or.inr ⟨by rfl, rfl⟩) ⟨HD.out, KD.out⟩ ?_
      refine ta 22 undef rfl (Or.inr ⟨by rfl, rfl⟩) ⟨HD.out, KD.out⟩ ?_
      refine ta 23 undef rfl (Or.inr ⟨by rfl, rfl⟩) ⟨HD.out, KD.out⟩ ?_
      try simp only [Act.put, jj1, jj2, jj3, jj4, jj5, jj6]
      refine ta 24 undef rfl (Or.inr ⟨by rfl, rfl⟩) ⟨HD.out, KD.out⟩ ?_
      refine ta 25 undef rfl (Or.inr ⟨by rfl, rfl⟩) ⟨HD.out, KD.out⟩ ?_
      refine ta 26 undef rfl (Or.inr ⟨by rfl, rfl⟩) ⟨HD.out, KD.out⟩ ?_
      refine tk 27 (.bool false) ⟨HD.out, KD.out⟩ ?_
      try simp only [Act.put, jj1, jj2, jj3, jj4, jj5, jj6]
      refine tk 28 (.bool false) ⟨HD.out, KD.out⟩ ?_
      refine ta 29 undef rfl (Or.inr ⟨by rfl, rfl⟩) ⟨HD.out, KD.out⟩ ?_
      refine ta 30 undef rfl (Or.inr ⟨by rfl, rfl⟩) ⟨HD.out, KD.out⟩ ?_
      refine ta 31 undef rfl (Or.inr ⟨by rfl, rfl⟩) ⟨HD.out, KD.out⟩ ?_
      try simp only [Act.put, jj1, jj2, jj3, jj4, jj5, jj6]
      refine ta 32 undef rfl (Or.inr ⟨by rfl, rfl⟩) ⟨HD.out, KD.out⟩ ?_
      refine ta 33 undef rfl (Or.inr ⟨by rfl, rfl⟩) ⟨HD.out, KD.out⟩ ?_
      refine ta 34 undef rfl (Or.inr ⟨by rfl, rfl⟩) ⟨HD.out, KD.out⟩ ?_
      refine tk 35 (.bool false) ⟨HD.out, KD.out⟩ ?_
      try simp only [Act.put, jj1, jj2, jj3, jj4, jj5, jj6]
      refine tk 36 (.bool false) ⟨HD.out, KD.out⟩ ?_
      try simp only [Act.put, jj1, jj2, jj3, jj4, jj5, jj6]
      refine wpAnyH_done (by kernel_rfl) ?_ _
      go_wp2
      go_ret
      exact ⟨by rfl, LD.out⟩
  · rw [decide_eq_false hp]
    have hp1 : (par == 0) = false := by simpa using hp
    clear hp
    go_enter Try.func47, Try.ntmps47
    go_upto_region 2 with (first | refine wl_st41 (B := w.heap.size) (o := 0) (L := Z) (.tmp 4) (.tmp 7) rfl rfl rfl rfl hZ (there41 hZ K1.out) ?_ | fail)
    have HD : Hid (Nc (W1.setCells w.heap.size 0 (ml Z)).drew g o ⟨par, nxt, ea, en, ec, E, cur, was, made⟩) := HC.out.keep (below_setCells (Nat.le_refl _) _ _ L1.out).drew
    have KD : Hid (Blk (W1.setCells w.heap.size 0 (ml Z)).drew w.heap.size 41 (mk Z)) := put41 hZ hZ K1.out
    have LD : Hid (Below w.heap.size w (W1.setCells w.heap.size 0 (ml Z)).drew) := (below_setCells (Nat.le_refl _) _ _ L1.out).drew
    clear hW1 L1 K1 HC
    refine wp_region_held (S := fun w' => Nc w' g o ⟨par, nxt, ea, en, ec, E, cur, was, made⟩ ∧ Blk w' w.heap.size 41 (mk Z)) (by kernel_rfl) ?_
    change wpAnyH _ _ _ _ _ _ _ _ (World.drew _)
    generalize (World.drew _) = V3 at *
    refine tk 0 (.pointer (some ⟨g, o, none⟩)) ⟨HD.out, KD.out⟩ ?_
    refine tk 1 (.pointer (some ⟨g, o, none⟩)) ⟨HD.out, KD.out⟩ ?_
    refine tk 2 (.pointer (some ⟨g, o, none⟩)) ⟨HD.out, KD.out⟩ ?_
    refine ta 3 (.int .i64 par) rfl (Or.inl ⟨by rfl, fun w9 h9 => by obtain ⟨⟨h1, h2, h3, h4, h5, h6, h7⟩, -⟩ := h9; go_simp⟩) ⟨HD.out, KD.out⟩ ?_
    try simp only [Act.put, jj1, jj2, jj3, jj4, jj5, jj6]
    refine tk 4 (.bool false) ⟨HD.out, KD.out⟩ ?_
    refine tk 5 (.bool false) ⟨HD.out, KD.out⟩ ?_
    refine ta 6 undef rfl (Or.inr ⟨by rfl, rfl⟩) ⟨HD.out, KD.out⟩ ?_
    refine ta 7 undef rfl (Or.inr ⟨by rfl, rfl⟩) ⟨HD.out, KD.out⟩ ?_
    try simp only [Act.put, jj1, jj2, jj3, jj4, jj5, jj6]
    refine ta 8 undef rfl (Or.inr ⟨by rfl, rfl⟩) ⟨HD.out, KD.out⟩ ?_
    refine ta 9 undef rfl (Or.inr ⟨by rfl, rfl⟩) ⟨HD.out, KD.out⟩ ?_
    refine ta 10 undef rfl (Or.inr ⟨by rfl, rfl⟩) ⟨HD.out, KD.out⟩ ?_
    refine ta 11 undef rfl (Or.inr ⟨by rfl, rfl⟩) ⟨HD.out, KD.out⟩ ?_
    try simp only [Act.put, jj1, jj2, jj3, jj4, jj5, jj6]
    refine tk 12 (.bool false) ⟨HD.out, KD.out⟩ ?_
    refine tk 13 (.bool false) ⟨HD.out, KD.out⟩ ?_
    refine ta 14 undef rfl (Or.inr ⟨by rfl, rfl⟩) ⟨HD.out, KD.out⟩ ?_
    refine ta 15 undef rfl (Or.inr ⟨by rfl, rfl⟩) ⟨HD.out, KD.out⟩ ?_
    try simp only [Act.put, jj1, jj2, jj3, jj4, jj5, jj6]
    refine ta 16 undef rfl (Or.inr ⟨by rfl, rfl⟩) ⟨HD.out, KD.out⟩ ?_
    refine ta 17 undef rfl (Or.inr ⟨by rfl, rfl⟩) ⟨HD.out, KD.out⟩ ?_
    refine ta 18 undef rfl (Or.inr ⟨by rfl, rfl⟩) ⟨HD.out, KD.out⟩ ?_
    refine tk 19 (.bool false) ⟨HD.out, KD.out⟩ ?_
    try simp only [Act.put, jj1, jj2, jj3, jj4, jj5, jj6]
    refine tk 20 (.bool false) ⟨HD.out, KD.out⟩ ?_
    refine ta 21 undef rfl (Or.inr ⟨by rfl, rfl⟩) ⟨HD.out, KD.out⟩ ?_
    refine ta 22 undef rfl (Or.inr ⟨by rfl, rfl⟩) ⟨HD.out, KD.out⟩ ?_
    refine ta 23 undef rfl (Or.inr ⟨by rfl, rfl⟩) ⟨HD.out, KD.out⟩ ?_
    try simp only [Act.put, jj1, jj2, jj3, jj4, jj5, jj6]
    refine ta 24 undef rfl (Or.inr ⟨by rfl, rfl⟩) ⟨HD.out, KD.out⟩ ?_
    refine ta 25 undef rfl (Or.inr ⟨by rfl, rfl⟩) ⟨HD.out, KD.out⟩ ?_
    refine ta 26 undef rfl (Or.inr ⟨by rfl, rfl⟩) ⟨HD.out, KD.out⟩ ?_
    refine tk 27 (.bool false) ⟨HD.out, KD.out⟩ ?_
    try simp only [Act.put, jj1, jj2, jj3, jj4, jj5, jj6]
    refine tk 28 (.bool false) ⟨HD.out, KD.out⟩ ?_
    refine ta 29 undef rfl (Or.inr ⟨by rfl, rfl⟩) ⟨HD.out, KD.out⟩ ?_
    refine ta 30 undef rfl (Or.inr ⟨by rfl, rfl⟩) ⟨HD.out, KD.out⟩ ?_
    refine ta 31 undef rfl (Or.inr ⟨by rfl, rfl⟩) ⟨HD.out, KD.out⟩ ?_
    try simp only [Act.put, jj1, jj2, jj3, jj4, jj5, jj6]
    refine ta 32 undef rfl (Or.inr ⟨by rfl, rfl⟩) ⟨HD.out, KD.out⟩ ?_
    refine ta 33 undef rfl (Or.inr ⟨by rfl, rfl⟩) ⟨HD.out, KD.out⟩ ?_
    refine ta 34 undef rfl (Or.inr ⟨by rfl, rfl⟩) ⟨HD.out, KD.out⟩ ?_
    refine tk 35 (.bool false) ⟨HD.out, KD.out⟩ ?_
    try simp only [Act.put, jj1, jj2, jj3, jj4, jj5, jj6]
    refine tk 36 (.bool false) ⟨HD.out, KD.out⟩ ?_
    try simp only [Act.put, jj1, jj2, jj3, jj4, jj5, jj6]
    refine wpAnyH_done (by kernel_rfl) ?_ _
    go_wp2
    go_ret
    exact ⟨by rfl, LD.out⟩
theorem begins_any (ao : Option Addr) (n c : Nat) (G : List Nr) (w : World) (HG : Hid (Grz w ao G)) (hn : G.length = n) (h0 : 0 < n) : Calls Try.prog 47 #[.slice ao n c] w fun e w' => e = .returned (.bool (tb (Zero (at' (G.map Nr.d) 0)))) ∧ Below w.heap.size w w' := by
  obtain ⟨r, hr⟩ : ∃ r, G[0]? = some r := ⟨_, List.getElem?_eq_getElem (by omega)⟩
  have hz := HG.out.nds 0 r hr
  rw [at'_eq (n := r.d) (by rw [List.getElem?_map, hr]; rfl), zero_dec r hz.len]
  obtain ⟨g, o, rfl, hc⟩ := HG.out.at hr
  rw [Nat.zero_mul, Nat.add_zero] at hc
  exact begins_walk zm rfl z24 b24 r g o n c w h0 hz.ww.len hz.wm.len hc
end Go.Proofs.Ytaahklapoppgaaa

