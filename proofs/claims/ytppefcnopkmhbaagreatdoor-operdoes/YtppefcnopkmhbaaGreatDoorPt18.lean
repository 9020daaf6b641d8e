/- Edi, Lst, Siz, Ape, Shh -/
import Derived.Test.YtppefcnopkmhbaaGreatDoorPt04
import Derived.Test.YtppefcnopkmhbaaGreatDoorPt17
namespace Go.Proofs.YtppefcnopkmhbaaGreatDoor
open Go.RowKit

set_option maxRecDepth 8000
theorem own_tx' {w : World} {base n c : Nat} {ao : Option Addr} {l : List UInt8} (h : w.ownsRow base 5 1 (.slice ao n c) n (bv l)) (hb : n ≤ 140737488355328) : Tx w ao n c l := by
  obtain ⟨ao', c', e, hT⟩ := own_tx h (by omega)
  simp at e
  obtain ⟨rfl, rfl⟩ := e
  exact hT
end Go.Proofs.YtppefcnopkmhbaaGreatDoor

namespace Go.Proofs.YtppefcnopkmhbaaGreatDoor
open Go.RowKit

set_option maxRecDepth 8000
def Er.r1 (r : Er) : Rw := ⟨5, 1, .slice r.p1 r.o r.c1, r.o, bv r.O⟩
def Er.r2 (r : Er) : Rw := ⟨5, 1, .slice r.p2 r.n r.c2, r.n, bv r.N⟩
/-- append of an edit to a list of one's own -/
theorem app_ed {w : World} (base : Nat) (v : Value) (n : Nat) (xs : List Value) (hown : w.ownsRow base 65 3 v n xs) (ad : Addr) (r : Er) (hc : ∀ j u, r.cs.toList[j]? = some u → w.cell? (ad.add j) = some u) (hb : (n + 1) * 56 ≤ 140737488355328) (hbase : base ≤ w.heap.size) :
    ∃ v' w', (∀ ty c, (Builtin.append_ #[31, 31] ty #[v, .slice (some ad) 1 c]).run Tryz.prog w = .ok v' w') ∧ w'.ownsRow base 65 3 v' (n + 1) (xs ++ r.cs.toList) ∧ w.grownBy w' v.ownBlock ∧ (v'.ownBlock = v.ownBlock ∨ ∃ q, v'.ownBlock = some q ∧ w.heap.size ≤ q) := by
  obtain ⟨i8, hi8, hz8, hs8, hb8⟩ := info_parts info38
  obtain ⟨v', w', hr, h2, h3, h4, h5⟩ := run_append_own_at (P := Tryz.prog) w base 31 31 65 i8 _ 3 56 Tryz.underlying31 hi8 hz8 hs8 hb8 rfl (by decide) v n xs hown ad 1 1 r.cs.toList (by simp [Er.cs]) hc (er_one r) (by unfold maxLen; omega) (by omega) hbase
  refine ⟨v', w', fun ty c => hr, h2, h3, ?_⟩
  rcases h5 with e | e
  · exact .inl e
  · exact .inr ⟨_, e, Nat.le_refl _⟩
end Go.Proofs.YtppefcnopkmhbaaGreatDoor

namespace Go.Proofs.YtppefcnopkmhbaaGreatDoor
open Go.RowKit

set_option maxRecDepth 8000
/-- how much longer, as a machine reckons it -/
def sz (D : List Ed) : Int := D.foldl (fun s d => IntKind.i64.wrap (s + ((d.N.length : Int) - (d.O.length : Int)))) 0
/-- the least place -/
def fst : List Ed → Int
  | [] => 0
  | d :: D => D.foldl (fun m e => min m e.a) d.a
theorem size38 (w : World) : (sizeOf 65).run Tryz.prog w = .ok 3 w := by kernel_rfl
theorem elem23 : Tryz.prog.elem 31 = 65 := by kernel_rfl
theorem und23 : Tryz.prog.underlying 31 = some (.slice (Tryz.prog.elem 31)) := by kernel_rfl
end Go.Proofs.YtppefcnopkmhbaaGreatDoor

namespace Go.Proofs.YtppefcnopkmhbaaGreatDoor
open Go.RowKit

set_option maxRecDepth 8000
theorem Wb.off {W W' : World} {lo hi : Nat} {v : Value} {l : List UInt8} {r : Option Nat} (h : Wb W lo hi v l) (hg : W.grownBy W' r) (hne : ∀ g, v.ownBlock = some g → some g ≠ r) : Wb W' lo hi v l := by
  rcases h with h | ⟨g, cap, cur, rfl, h1, h2, h3, h4⟩
  · exact .inl h
  · exact .inr ⟨g, cap, cur, rfl, h1, h2, h3.grown hg (hne g rfl), h4⟩
theorem Wb.row_far {W : World} {lo hi base e s n : Nat} {v u : Value} {l : List UInt8} {xs : List Value} (h : Wb W lo hi v l) (k : W.ownsRow base e s u n xs) (he : e ≠ 5) : ∀ g, v.ownBlock = some g → some g ≠ u.ownBlock := fun g hg hu => by
  rcases h with ⟨rfl, _⟩ | ⟨g1, cap, cur, rfl, _, _, h3, _⟩
  · cases hg
  · simp [Value.ownBlock] at hg
    subst hg
    rcases k.2 with ⟨rfl, _⟩ | ⟨g2, c2, u2, rfl, _, hg2, _⟩
    · simp [Value.ownBlock] at hu
    · simp [Value.ownBlock] at hu
      subst hu
      unfold Blk at h3
      rw [h3] at hg2
      simp at hg2
      exact he hg2.2.symm
theorem snoc2_at {α : Type} {L : List α} {x y z : α} {i : Nat} (h : (L ++ [x, y])[i]? = some z) : L[i]? = some z ∨ (i = L.length ∧ z = x) ∨ (i = L.length + 1 ∧ z = y) := by
  rcases Nat.lt_or_ge i L.length with hi | hi
  · rw [List.getElem?_append_left hi] at h; exact .inl h
  · rw [List.getElem?_append_right hi] at h
    obtain ⟨d, rfl⟩ : ∃ d, i = L.length + d := ⟨i - L.length, by omega⟩
    rw [Nat.add_sub_cancel_left] at h
    match d, h with
    | 0, h => simp at h; exact .inr (.inl ⟨rfl, h.symm⟩)
    | 1, h => simp at h; exact .inr (.inr ⟨rfl, h.symm⟩)
    | d + 2, h => simp at h
/-- one more edit -/
theorem Eds.snoc {W W' W'' : World} {lo : Nat} {v v' : Value} {F : List Er} {r : Er} (h : Eds W lo W.heap.size v F) (hb : Below W.heap.size W W') (h1 : Wb W' W.heap.size W'.heap.size (.slice r.p1 r.o r.c1) r.O) (h2 : Wb W' W.heap.size W'.heap.size (.slice r.p2 r.n r.c2) r.N) (hf : Far (.slice r.p1 r.o r.c1) (.slice r.p2 r.n r.c2)) (b1 : r.o ≤ 140737488355328) (b2 : r.n ≤ 140737488355328)
    (hg : W'.grownBy W'' v.ownBlock) (hv : W''.ownsRow lo 65 3 v' (F.length + 1) (ecs F ++ r.cs.toList)) (hlo : lo ≤ W.heap.size) : Eds W'' lo W''.heap.size v' (F ++ [r]) := by
  have hk := h.keep hb
  have hs1 := hb.size
  have hs2 := hg.size
  have ho : ∀ (k : Nat) (x : Value × List UInt8), (tes F)[k]? = some x → Wb W'' lo W''.heap.size x.1 x.2 := fun k x hx => ((hk.tx k x hx).off hg ((hk.tx k x hx).row_far hk.row (by decide))).wide (Nat.le_refl _) (by omega)
  have hn : ∀ v l, Wb W' W.heap.size W'.heap.size v l → Wb W'' lo W''.heap.size v l := fun u l hu => by
    refine ((hu.off hg ?_).wide hlo (by omega))
    exact hu.row_far hk.row (by decide)
  have hfo : ∀ (k : Nat) (x : Value × List UInt8) (u : Value) (l : List UInt8), (tes F)[k]? = some x → Wb W' W.heap.size W'.heap.size u l → Far x.1 u := fun k x u l hx hu => (h.tx k x hx).far hu (.inl (Nat.le_refl _))
  refine ⟨by rw [List.length_append, ecs_snoc]; exact hv, fun g hg' => (hv.lt g hg').2, fun k x hx => ?_, fun i j x y hij hi hj => ?_, fun s hs => ?_⟩
  · rw [tes_snoc] at hx
    rcases snoc2_at hx with e | ⟨_, rfl⟩ | ⟨_, rfl⟩
    · exact ho k x e
    · exact hn _ _ h1
    · exact hn _ _ h2
  · rw [tes_snoc] at hi hj
    rcases snoc2_at hi with e | ⟨e, rfl⟩ | ⟨e, rfl⟩ <;> rcases snoc2_at hj with e' | ⟨e', rfl⟩ | ⟨e', rfl⟩
    · exact h.far i j x y hij e e'
    · exact hfo i x _ _ e h1
    · exact hfo i x _ _ e h2
    · exact (hfo j y _ _ e' h1).symm
    · exact absurd (e.trans e'.symm) hij
    · exact hf
    · exact (hfo j y _ _ e' h2).symm
    · exact hf.symm
    · exact absurd (e.trans e'.symm) hij
  · rcases List.mem_append.1 hs with hs | hs
    · exact h.big s hs
    · simp at hs; subst hs; exact ⟨b1, b2⟩
theorem wl_ape {w : World} {ops : Array Oper} {rest : List Oper} {o : Oper} {a : Act} {Q : Exit → Act → World → Prop} (hgd : o.guard = none) (d s : Operand)
    (ho : o.op = .call { callee := .builtin .append, args := #[d, s], argTypes := #[31, 31] }) (v u : Value) (hd : a.eval d = v) (hs : a.eval s = u) {v' : Value} {w' : World}
    (hr : ∀ ty, (Builtin.append_ #[31, 31] ty #[v, u]).run Tryz.prog w = .ok v' w') (h : wpList Tryz.prog ops Q rest (a.put o.dst v') w') : wpList Tryz.prog ops Q (o :: rest) a w :=
  Lib.wpList_append_run w hgd d s 31 31 ho v u hd hs v' w' (hr _) h
theorem Edz.take {W : World} {ao : Option Addr} {F : List Er} (h : Edz W ao F) (k : Nat) : Edz W ao (F.take k) :=
  ⟨fun i r hi => h.row i r (by rw [List.getElem?_take] at hi; split at hi; exact hi; cases hi), fun i r hi => h.txs i r (by rw [List.getElem?_take] at hi; split at hi; exact hi; cases hi)⟩
/-- a slice's beginning, at any type of lists of edits -/
theorem so_he {W : World} {lo hi : Nat} {v : Value} {F : List Er} (h : Eds W lo hi v F) {z : Int} {k : Nat} (hk : k ≤ F.length) (hz : z = (k : Int)) : ∃ ao n c, v = .slice ao n c ∧ n = F.length ∧ Edz W ao F ∧ ∀ W', (Instr.sliceAt 31 (.slice ao n c) none (some (.int .i64 z)) none).run Tryz.prog W' = .ok (.slice ao k c) W' := by
  obtain ⟨ao, c, rfl, hE, hn⟩ := h.edz
  refine ⟨ao, F.length, c, rfl, rfl, hE, fun W' => ?_⟩
  have hc : F.length ≤ c := by
    rcases h.row.2 with ⟨e, h0⟩ | ⟨g, cap, cur, e, _, _, h3, _⟩
    · simp at e; omega
    · simp at e; omega
  subst hz
  rw [run_sliceAt_slice W' 31 _ _ _ _ und23, run_slice_h W' 31 ao _ c und23 .i64 (k : Int) (by omega) (by omega), elem23, size38]
  show Result.ok (sliced ao 0 (k : Int).toNat c 3) W' = _
  unfold sliced
  cases ao with
  | none => simp
  | some a => simp [Addr.add]
/-- an edit of new texts is put behind -/
theorem ape_step {w3 w6 : World} {lo : Nat} {v : Value} {F : List Er} {p1 p2 : Option Addr} {d1 d2 m : Nat} {X Y : List UInt8} (E : Eds w3 lo w3.heap.size v F) (hlo : lo ≤ w3.heap.size) (hb : Below w3.heap.size w3 w6) (h1 : Wb w6 w3.heap.size m (.slice p1 X.length d1) X) (h2 : Wb w6 m w6.heap.size (.slice p2 Y.length d2) Y) (hm : w3.heap.size ≤ m) (hm2 : m ≤ w6.heap.size) (hX : X.length ≤ 140737488355328) (hY : Y.length ≤ 140737488355328) (hF : F.length ≤ 1073741824) (A : Int) :
    ∃ v9 w9, (∀ ty, (Builtin.append_ #[31, 31] ty #[v, .slice (some ⟨w6.heap.size, 0, none⟩) 1 1]).run Tryz.prog (w6.alloc (.cells #[.int .i64 A, .slice p1 X.length d1, .slice p2 Y.length d2] 65)) = .ok v9 w9) ∧ Eds w9 lo w9.heap.size v9 (F ++ [⟨A, p1, X.length, d1, X, p2, Y.length, d2, Y⟩]) ∧ w3.heap.size ≤ w9.heap.size ∧
      (∀ (u : World) (n : Nat), n ≤ lo → Below n u w3 → Below n u w9) := by
  have hb6 : Below w3.heap.size w3 (w6.alloc (.cells #[.int .i64 A, .slice p1 X.length d1, .slice p2 Y.length d2] 65)) := bT hb (bAlloc (Below.refl _ _) _)
  have hk : Below w6.heap.size w6 (w6.alloc (.cells #[.int .i64 A, .slice p1 X.length d1, .slice p2 Y.length d2] 65)) := bAlloc (Below.refl _ _) _
  have hsz := World.size_alloc w6 (.cells #[.int .i64 A, .slice p1 X.length d1, .slice p2 Y.length d2] 65)
  obtain ⟨v9, w9, hr, ho, hg, hf⟩ := app_ed lo v F.length (ecs F) (own_keep E.row hb6) ⟨w6.heap.size, 0, none⟩ ⟨A, p1, X.length, d1, X, p2, Y.length, d2, Y⟩ (fun j u hj => lit_cells w6 _ 65 j u hj) (by omega) (Nat.le_trans hlo hb6.size)
  refine ⟨v9, w9, fun ty => hr ty 1, ?_, Nat.le_trans hb6.size hg.size, fun u n hn hu => ?_⟩
  · exact E.snoc hb6 ((h1.keep hk).wide (Nat.le_refl _) (by omega)) ((h2.keep hk).wide hm (by omega)) (h1.far h2 (.inl (Nat.le_refl _))) hX hY hg ho hlo
  · have h6 : Below n u (w6.alloc (.cells #[.int .i64 A, .slice p1 X.length d1, .slice p2 Y.length d2] 65)) := hu.trans (hb6.mono (Nat.le_trans hn hlo))
    refine h6.grown hg (Nat.le_trans hn (Nat.le_trans hlo hb6.size)) (fun g hg' => ?_)
    have := (E.row.lt g hg').1
    omega
theorem Blk.low {u w : World} {n B e : Nat} {cs : Array Value} (h : Blk u B e cs) (hb : Below n u w) (hB : B < n) : Blk w B e cs := by unfold Blk; rw [hb.block B hB]; exact h
end Go.Proofs.YtppefcnopkmhbaaGreatDoor

namespace Go.Proofs.YtppefcnopkmhbaaGreatDoor
open Go.RowKit

set_option maxRecDepth 8000
/-- what > does at a line's head: how many bytes go, how many tabs come -/
def hdI (k : Nat) (p : List UInt8) : Nat × Nat := if p.length = 0 then (0, 0) else (0, k)
/-- what < does -/
def hdO (k : Nat) (p : List UInt8) : Nat × Nat := (mgn p k 0, 0)
def hdV (x : Nat × Nat) : Value := .tuple #[.int .i64 (x.1 : Int), .int .i64 (x.2 : Int)]
theorem tsk_cnt {W : World} {B : Nat} {tv : Value} {at' F T : Int} {L D : Bool} {a b c : Int} (h : Blk W B 90 (tskC tv at' F T L D a b c)) : W.cell? ⟨B, 8, none⟩ = some (.int .i64 c) := h.cell rfl
set_option maxHeartbeats 2000000 in
theorem ind1_any (ao : Option Addr) (n c C : Nat) (l : List UInt8) (w : World) (HT : Hid (Tx w ao n c l)) (tv : Value) (at' F T : Int) (L D : Bool) (a b : Int) (k : Nat) (HC : Hid (Blk w C 90 (tskC tv at' F T L D a b (k : Int)))) :
    Calls Tryz.prog 103 #[.slice ao n c, .pointer (some ⟨C, 0, none⟩)] w fun e w' => e = .returned (hdV (hdI k l)) ∧ Below w.heap.size w w' := by
  have hl := HT.out.len
  unfold hdI hdV
  rw [hl]
  have h8 := tsk_cnt HC.out
  clear HT HC hl
  by_cases hn : n = 0
  · subst hn
    rw [if_pos rfl]
    go_enter Tryz.func103, Tryz.ntmps103
    go_wp2
    go_ret2
    exact ⟨rfl, Below.refl _ _⟩
  · rw [if_neg hn]
    have h0 : ((n : Int) == 0) = false := by simp; omega
    go_enter Tryz.func103, Tryz.ntmps103
    go_upto_region 3 with fail
    go_region
    go_wp2
    go_ret2
    exact ⟨rfl, (Below.refl _ _).drew⟩
set_option maxHeartbeats 2000000 in
theorem out1_any (ao : Option Addr) (n c C : Nat) (l : List UInt8) (w : World) (HT : Hid (Tx w ao n c l)) (tv : Value) (at' F T : Int) (L D : Bool) (a b : Int) (k : Nat) (hk : k ≤ 9999) (HC : Hid (Blk w C 90 (tskC tv at' F T L D a b (k : Int)))) :
    Calls Tryz.prog 104 #[.slice ao n c, .pointer (some ⟨C, 0, none⟩)] w fun e w' => e = .returned (hdV (hdO k l)) ∧ Below w.heap.size w w' := by
  unfold hdO hdV
  have h8 := tsk_cnt HC.out
  have CM := Hid.mk' (margin_any ao n c k l w HT.out hk)
  clear HT HC
  go_enter Tryz.func104, Tryz.ntmps104
  go_wp2_with (first | (go_at_call 105; refine CM.out.mono ?_; rintro e w' ⟨rfl, hw⟩) | fail)
  go_ret2
  exact ⟨rfl, hw⟩
end Go.Proofs.YtppefcnopkmhbaaGreatDoor
