/- bank.keep: what was taken out without a name is kept. -/
import Derived.Test.YtienamngmalkaaaBhd
import Derived.Laws.CopyRow
import Derived.Deep.RegionLaw
namespace Go.Proofs.Ytienamngmalkaaa
open Go.RowKit

set_option maxRecDepth 8000
theorem rl_take (L : List Rg) (k : Nat) : (rl L).take (3 * k) = rl (L.take k) := by
  induction L generalizing k with
  | nil => simp [rl_nil]
  | cons r L ih =>
    cases k with
    | zero => rfl
    | succ k =>
      rw [List.take_succ_cons, rl_cons, rl_cons, ← ih k, show 3 * (k + 1) = 3 + 3 * k by omega]
      rw [List.take_add]
      rfl
theorem rl_drop (L : List Rg) (k : Nat) : (rl L).drop (3 * k) = rl (L.drop k) := by
  have h := rl_append (L.take k) (L.drop k)
  rw [List.take_append_drop, ← rl_take] at h
  have h2 := List.take_append_drop (3 * k) (rl L)
  exact List.append_cancel_left (h2.trans h)
/-- the numbered registers moved on by one -/
def pushL {α : Type} (L : List α) : List α := L.take 3 ++ (L.drop 2).take 8 ++ L.drop 11
theorem pushL_len {α : Type} {L : List α} (h : L.length = 37) : (pushL L).length = 37 := by simp [pushL, h]
/-- where a register moved on comes from -/
def psh (k : Nat) : Nat := if k < 3 then k else if k < 11 then k - 1 else k
theorem pushL_at {α : Type} {L : List α} (h : L.length = 37) (k : Nat) : (pushL L)[k]? = L[psh k]? := by
  unfold pushL psh
  rw [List.append_assoc, List.getElem?_append]
  by_cases h1 : k < 3
  · rw [if_pos (by simp; omega), if_pos h1, List.getElem?_take_of_lt h1]
  · rw [if_neg (by simp; omega), if_neg h1, List.getElem?_append, List.length_take, h]
    by_cases h2 : k < 11
    · rw [if_pos (by simp; omega), if_pos h2, List.getElem?_take_of_lt (by simp; omega), List.getElem?_drop]
      congr 1; simp; omega
    · rw [if_neg (by simp; omega), if_neg h2, List.getElem?_drop]
      congr 1; simp; omega
theorem rl_push {L : List Rg} : rl (pushL L) = (rl L).take 9 ++ ((rl L).drop 6).take 24 ++ (rl L).drop 33 := by
  have h1 := rl_take L 3
  have h2 := rl_drop L 2
  have h3 := rl_take (L.drop 2) 8
  have h4 := rl_drop L 11
  unfold pushL
  rw [rl_append, rl_append, ← h1, ← h3, ← h2, ← h4]
theorem info24 : (Try.prog.info? 24).map (·.size) = some 3 := by kernel_rfl
theorem run_copy9 {W : World} {B : Nat} {L : List Rg} (hL : L.length = 37) (h : Blk W B 28 (bk L)) :
    (Builtin.copy_ #[67, 67] 3 #[.slice (some ⟨B, 9, none⟩) 8 8, .slice (some ⟨B, 6, none⟩) 9 9]).run Try.prog W = .ok (goInt 8) (W.setRow B (bk (pushL L))) := by
  have hlen := rl_len L
  have hcs : (((rl L).drop 6).take 24).length = 24 := by simp; omega
  have hsrc : ∀ j v, (((rl L).drop 6).take 24)[j]? = some v → W.cell? ((⟨B, 6, none⟩ : Addr).add j) = some v := fun j v hv => by
    rw [add_none]
    refine h.cell ?_
    have hj := (List.getElem?_eq_some_iff.1 hv).1
    rw [hcs] at hj
    rw [List.getElem?_take_of_lt hj, List.getElem?_drop] at hv
    simpa [bk] using hv
  have hl := run_loadCells_list (P := Try.prog) W ⟨B, 6, none⟩ (((rl L).drop 6).take 24) hsrc
  have hst := run_storeCells_at Try.prog B 9 28 (((rl L).drop 6).take 24) 0 (bk L) W h (by rw [hcs, bk_size]; omega) (fun v hv => rl_one L v (List.mem_of_mem_drop (List.mem_of_mem_take hv)))
  cases hq : Try.prog.info? 24 with
  | none => have := info24; rw [hq] at this; cases this
  | some i =>
    have hi : i.size = 3 := by have := info24; rw [hq] at this; simpa using this
    rw [hcs] at hl hst
    have e : (bk (pushL L)) = ((bk L).toList.take (9 + 0) ++ ((rl L).drop 6).take 24 ++ (bk L).toList.drop (9 + 0 + 24)).toArray := by
      simp only [bk, rl_push]
    rw [e]
    simp [Builtin.copy_, run_underlying (show Try.prog.underlying 67 = some (.slice 24) from Try.underlying67), Builtin.lenOf, Builtin.firstCells, sizeOf, typeInfo, hq, hi, hl]
    simp at hst
    rw [hst]
    rfl
theorem grown_setRow {W : World} {B : Nat} (cs : Array Value) : W.grownBy (W.setRow B cs) (some B) :=
  ⟨rfl, rfl, rfl, by simp [World.setRow], fun k _ hk => setRow_other W B k cs (fun e => hk (by rw [e]))⟩
theorem step_copy9 {c : Bool} {o : Oper} {a : Act} {w : World} {K : Act → World → Prop} {Q : Exit → Act → World → Prop} {E : Prop} (hc : c = true) (d s : Operand) (hty : o.type = 3)
    (ho : o.op = .call { callee := .builtin .copy, args := #[d, s], argTypes := #[67, 67] }) (B : Nat) (hd : a.eval d = .slice (some ⟨B, 9, none⟩) 8 8) (hs : a.eval s = .slice (some ⟨B, 6, none⟩) 9 9)
    {L : List Rg} (hL : L.length = 37) (hB : Blk w B 28 (bk L)) (h : ∀ w', Hid (Blk w' B 28 (bk (pushL L))) → Hid (w.grownBy w' (some B)) → K (a.put o.dst (goInt 8)) w') :
    if c = true then Oper.wp Try.prog o a w K Q else E := by
  rw [if_pos hc]
  have hrun := run_copy9 hL hB
  unfold Oper.wp
  simp [execOp, ho, resolve, invoke, builtin, hd, hs, hty, hrun, Result.andThen]
  exact h _ (setRow_heap w B _ _ 28 _ hB) (grown_setRow _)

theorem grown_alloc (w : World) (o : Obj) (r : Option Nat) : w.grownBy (w.alloc o) r := ⟨rfl, rfl, rfl, by simp, fun k hk _ => heap_alloc_old w o hk⟩
theorem grown_undrew {w w' : World} {r : Option Nat} (h : w.drew.grownBy w' r) : w.grownBy w' r := ⟨h.os, h.tape, h.output, h.size, h.block⟩
theorem grown_drew {w w' : World} {r : Option Nat} (h : w.grownBy w' r) : w.grownBy w'.drew r := ⟨h.os, h.tape, h.output, h.size, h.block⟩
theorem grown_set (w : World) (B j : Nat) (v : Value) : w.grownBy (w.setCell ⟨B, j, none⟩ v) (some B) :=
  ⟨rfl, rfl, rfl, by simp, fun k _ hk => heap_setCell_other _ _ _ _ (fun e => hk (by rw [e]))⟩
theorem grown_putr (w : World) (B k : Nat) (s l : Bool) (v : Value) : w.grownBy (putr w B k s l v) (some B) := ((grown_set w B _ _).trans (grown_set _ B _ _)).trans (grown_set _ B _ _)
/-- what is kept -/
def keepL {α : Type} (L : List α) (how : Int) (r : α) : List α := if how = 2 then (pushL L).set 2 r else if how = 3 then L.set 1 r else L
theorem keepL_len {α : Type} {L : List α} (h : L.length = 37) (how : Int) (r : α) : (keepL L how r).length = 37 := by
  unfold keepL
  split
  · rw [List.length_set, pushL_len h]
  · split
    · rw [List.length_set, h]
    · exact h
set_option maxHeartbeats 2000000 in
theorem keep_any (B : Nat) (L : List Rg) (how : Int) (s l : Bool) (a : Option Addr) (n c : Nat) (w : World) (hL : L.length = 37) (HB : Hid (Blk w B 28 (bk L))) :
    Calls Try.prog 32 #[.pointer (some ⟨B, 0, none⟩), .int .i64 how, .agg #[.bool s, .bool l, .slice a n c]] w fun e w' => e = .returned (.tuple #[]) ∧ Blk w' B 28 (bk (keepL L how ⟨s, l, a, n, c⟩)) ∧ w.grownBy w' (some B) := by
  have hlt := HB.out.lt
  generalize hW1 : w.alloc (.cells #[.bool s, .bool l, .slice a n c] 24) = W1
  have hz1 : W1.heap.size = w.heap.size + 1 := by subst hW1; simp
  have B1 : Hid (Blk W1 w.heap.size 24 #[.bool s, .bool l, .slice a n c]) := by subst hW1; exact Blk.new w 24 _
  have B2 : Hid (Blk W1 B 28 (bk L)) := by subst hW1; exact HB.out.keep (bAlloc (Below.refl _ _) _)
  have o0 : W1.cell? ⟨w.heap.size, 0, none⟩ = some (.bool s) := B1.out.cell rfl
  have o1 : W1.cell? ⟨w.heap.size, 1, none⟩ = some (.bool l) := B1.out.cell rfl
  have o2 : W1.cell? ⟨w.heap.size, 2, none⟩ = some (.slice a n c) := B1.out.cell rfl
  by_cases h2 : how = 2
  · subst h2
    unfold keepL
    rw [if_pos rfl]
    have B2d : Hid (Blk W1.drew B 28 (bk L)) := B2.out
    go_enter Try.func32, Try.ntmps32
    go_wp2_with fail
    go_region_law ((try simp only [Act.put, List.getElem_toArray, List.getElem_cons_zero, List.getElem_cons_succ, List.setIfInBounds_toArray, List.set_cons_zero, List.set_cons_succ]); refine step_copy9 rfl (.tmp 12) (.tmp 16) rfl rfl B rfl rfl hL B2d.out ?_; intro W2 HB2 HG2)
    have K1 : Hid (Blk W2 w.heap.size 24 #[.bool s, .bool l, .slice a n c]) := Blk.grown (W := W1.drew) B1.out HG2.out (by simp; omega)
    have G2 : Hid (w.grownBy W2 (some B)) := (grown_alloc w (.cells #[.bool s, .bool l, .slice a n c] 24) (some B)).trans (by rw [hW1]; exact grown_undrew HG2.out)
    clear o0 o1 o2 B1 B2 B2d hW1 hz1 HG2 HB
    have o0 : W2.cell? ⟨w.heap.size, 0, none⟩ = some (.bool s) := K1.out.cell rfl
    have o1 : W2.cell? ⟨w.heap.size, 1, none⟩ = some (.bool l) := K1.out.cell rfl
    have o2 : W2.cell? ⟨w.heap.size, 2, none⟩ = some (.slice a n c) := K1.out.cell rfl
    obtain ⟨x2, hx2⟩ : ∃ r, (pushL L)[2]? = some r := ⟨_, List.getElem?_eq_getElem (by rw [pushL_len hL]; omega)⟩
    obtain ⟨c0, c1, c2⟩ := HB2.out.rg hx2
    change W2.cell? ⟨B, 6, none⟩ = _ at c0
    change W2.cell? ⟨B, 7, none⟩ = _ at c1
    change W2.cell? ⟨B, 8, none⟩ = _ at c2
    have f0 := HB2.out.frozen 6
    have f1 := HB2.out.frozen 7
    have f2 := HB2.out.frozen 8
    clear hx2
    have HB3 := Hid.mk' (HB2.out.putr (k := 2) ⟨s, l, a, n, c⟩)
    have G3 := Hid.mk' (G2.out.trans (grown_putr W2 B 2 s l (.slice a n c)))
    clear HB2 G2 K1
    go_wp2
    go_region
    all_goals go_wp2
    all_goals exact bodyPost_end (v := .tuple #[]) (by simp [results, Try.results32]) rfl ⟨rfl, HB3.out, grown_drew G3.out⟩
  have e2 : (how == 2) = false := by simpa using h2
  unfold keepL
  rw [if_neg h2]
  have G1 : Hid (w.grownBy W1 (some B)) := by subst hW1; exact grown_alloc w _ _
  by_cases h3 : how = 3
  · subst h3
    rw [if_pos rfl]
    obtain ⟨x1, hx1⟩ : ∃ r, (L)[1]? = some r := ⟨_, List.getElem?_eq_getElem (by rw [hL]; omega)⟩
    obtain ⟨c0, c1, c2⟩ := B2.out.rg hx1
    change W1.cell? ⟨B, 3, none⟩ = _ at c0
    change W1.cell? ⟨B, 4, none⟩ = _ at c1
    change W1.cell? ⟨B, 5, none⟩ = _ at c2
    have f0 := B2.out.frozen 3
    have f1 := B2.out.frozen 4
    have f2 := B2.out.frozen 5
    clear hx1
    have HB3 := Hid.mk' (B2.out.putr (k := 1) ⟨s, l, a, n, c⟩)
    have G3 := Hid.mk' (G1.out.trans (grown_putr W1 B 1 s l (.slice a n c)))
    go_enter Try.func32, Try.ntmps32
    go_wp2
    all_goals exact bodyPost_end (v := .tuple #[]) (by simp [results, Try.results32]) rfl ⟨rfl, HB3.out, G3.out⟩
  · rw [if_neg h3]
    have e3 : (how == 3) = false := by simpa using h3
    go_enter Try.func32, Try.ntmps32
    go_wp2
    all_goals exact bodyPost_end (v := .tuple #[]) (by simp [results, Try.results32]) rfl ⟨rfl, B2.out, G1.out⟩
end Go.Proofs.Ytienamngmalkaaa
