/- hunt: lastMatch's two functions, sort.Search. -/
import Derived.Test.YtaakgoojcogbcaaXb
import Derived.Test.YtaakgoojcogbcaaZFin
import Derived.Laws.EntriesVeiled
import Derived.Laws.Shifts
import Derived.Deep.RegionHeld3
namespace Go.Proofs.Ytaakgoojcogbcaa
open Go.RowKit
/-- no match from f to k -/
def nn (l : List Th) (line : List UInt8) (k f : Nat) : Bool := !((List.range (k + 1)).any fun s => decide (f ≤ s) && mt l line s)
section
variable {l : List Th} {line : List UInt8} {k f : Nat}
theorem nn_iff : nn l line k f = true ↔ ∀ s, f ≤ s → s ≤ k → mt l line s = false := by
  unfold nn
  rw [Bool.not_eq_true', List.any_eq_false]
  constructor
  · intro h s h1 h2
    have := h s (List.mem_range.2 (by omega))
    simpa [h1] using this
  · intro h s hs
    have h2 := List.mem_range.1 hs
    by_cases h1 : f ≤ s
    · rw [h s h1 (by omega)]; simp
    · simp [h1]
theorem nn_not : nn l line k f = false ↔ ∃ s, f ≤ s ∧ s ≤ k ∧ mt l line s = true := by
  constructor
  · intro h
    apply Classical.byContradiction
    intro h2
    have : nn l line k f = true := nn_iff.2 fun s h3 h4 => by
      cases e : mt l line s with
      | false => rfl
      | true => exact absurd ⟨s, h3, h4, e⟩ h2
    rw [h] at this; cases this
  · rintro ⟨s, h1, h2, h3⟩
    cases e : nn l line k f with
    | false => rfl
    | true => rw [nn_iff.1 e s h1 h2] at h3; cases h3
/-- found by halves -/
theorem lm_found {r n : Nat} (h0 : nn l line k f = false) (hn : n = k - f) (hf : f ≤ k) (h1 : r = 0 ∨ nn l line k (f + r) = false) (h2 : r = n ∨ nn l line k (f + 1 + r) = true) (hr : r ≤ n) : LM l line k (f + r) true := by
  have h3 : nn l line k (f + r) = false := by
    rcases h1 with h | h
    · subst h; exact h0
    · exact h
  have h4 : ∀ s, f + r < s → s ≤ k → mt l line s = false := by
    rcases h2 with h | h
    · intro s a b; omega
    · intro s a b; exact nn_iff.1 h s (by omega) b
  obtain ⟨s, a, b, c⟩ := nn_not.1 h3
  have : s = f + r := by
    rcases Nat.lt_or_ge (f + r) s with h | h
    · rw [h4 s h b] at c; cases c
    · omega
  subst this
  exact .inl ⟨rfl, by omega, c, h4⟩
theorem lm_none (h0 : nn l line k 0 = true) : LM l line k 0 false := .inr ⟨rfl, rfl, fun s hs => nn_iff.1 h0 s (Nat.zero_le _) hs⟩
end
set_option maxRecDepth 8000 in
set_option maxHeartbeats 4000000 in
theorem none_any (base : Nat) (W : World) (P : Nat) (l : List Th) (al : Option Addr) (m cl : Nat) (line : List UInt8) (b3 b4 b5 k f : Nat) (hl : l.length ≤ 256) (hf : f ≤ m) (c3 : W.cell? ⟨b3, 0, none⟩ = some (.pointer (some ⟨P, 0, none⟩))) (c4 : W.cell? ⟨b4, 0, none⟩ = some (.slice al m cl)) (c5 : W.cell? ⟨b5, 0, none⟩ = some (.int .i64 (k : Int))) (HP : Hid (Pat base W P l)) (HT : Hid (Tx W al m cl line)) :
    Calls Try.prog 97 #[.int .i64 (f : Int), .pointer (some ⟨b3, 0, none⟩), .pointer (some ⟨b4, 0, none⟩), .pointer (some ⟨b5, 0, none⟩)] W fun e W' => e = .returned (.bool (nn l line k f)) ∧ Below W.heap.size W W' := by
  have hlen := HT.out.len
  have CF := Hid.mk' (find_any base W P l al m cl line (f : Int) hl HP HT)
  go_enter Try.func97, Try.ntmps97
  go_wp2_with fail
  refine CF.out.mono ?_
  rintro e w2 ⟨a, b, ok, rfl, hfi, hb2⟩
  have hfs : FS l line f a b ok := by
    rcases hfi with ⟨h9, _⟩ | ⟨_, _, h9⟩
    · omega
    · rw [Int.toNat_natCast] at h9; exact h9
  have HFS := Hid.mk' hfs
  have d5 := keepC hb2 c5
  have HB := Hid.mk' hb2
  clear hfs hfi hb2 CF c3 c4 c5
  cases ok with
  | false =>
    have HN : Hid (nn l line k f = true) := nn_iff.2 fun s h1 h2 => HFS.out.not s h1
    go_wp2
    go_ret
    exact ⟨by rw [HN.out]; rfl, HB.out⟩
  | true =>
    obtain ⟨y1, y2, y3, y4⟩ := HFS.out.yes
    by_cases hak : k < a
    · have hak' : decide ((k : Int) < (a : Int)) = true := decide_eq_true (by omega)
      have HN : Hid (nn l line k f = true) := nn_iff.2 fun s h1 h2 => y4 s h1 (by omega)
      clear y1 y2 y3 y4
      go_wp2
      go_ret
      exact ⟨by rw [HN.out]; rfl, HB.out⟩
    · have hak' : decide ((k : Int) < (a : Int)) = false := decide_eq_false (by omega)
      have HN : Hid (nn l line k f = false) := nn_not.2 ⟨a, y1, by omega, y3⟩
      clear y1 y2 y3 y4
      go_wp2
      go_ret
      exact ⟨by rw [HN.out]; rfl, HB.out⟩
/-- the boxes of lastMatch -/
structure Lb (W : World) (P : Nat) (al : Option Addr) (m cl b3 b4 b5 b8 b9 k f : Nat) : Prop where
  c3 : W.cell? ⟨b3, 0, none⟩ = some (.pointer (some ⟨P, 0, none⟩))
  c4 : W.cell? ⟨b4, 0, none⟩ = some (.slice al m cl)
  c5 : W.cell? ⟨b5, 0, none⟩ = some (.int .i64 (k : Int))
  c8 : W.cell? ⟨b8, 0, none⟩ = some (.func (.func 97) #[] #[.pointer (some ⟨b3, 0, none⟩), .pointer (some ⟨b4, 0, none⟩), .pointer (some ⟨b5, 0, none⟩)])
  c9 : W.cell? ⟨b9, 0, none⟩ = some (.int .i64 (f : Int))
theorem Lb.keep {W W' : World} {P : Nat} {al : Option Addr} {m cl b3 b4 b5 b8 b9 k f : Nat} (h : Lb W P al m cl b3 b4 b5 b8 b9 k f) (hb : Below W.heap.size W W') : Lb W' P al m cl b3 b4 b5 b8 b9 k f :=
  ⟨keepC hb h.c3, keepC hb h.c4, keepC hb h.c5, keepC hb h.c8, keepC hb h.c9⟩
set_option maxRecDepth 8000 in
set_option maxHeartbeats 4000000 in
theorem none2_any (base : Nat) (W : World) (P : Nat) (l : List Th) (al : Option Addr) (m cl : Nat) (line : List UInt8) (b3 b4 b5 b8 b9 k f i : Nat) (hl : l.length ≤ 256) (hf : f + 1 + i ≤ m) (HL : Hid (Lb W P al m cl b3 b4 b5 b8 b9 k f)) (HP : Hid (Pat base W P l)) (HT : Hid (Tx W al m cl line)) :
    Calls Try.prog 99 #[.int .i64 (i : Int), .pointer (some ⟨b8, 0, none⟩), .pointer (some ⟨b9, 0, none⟩)] W fun e W' => e = .returned (.bool (nn l line k (f + 1 + i))) ∧ Below W.heap.size W W' := by
  have hbig := HT.out.big
  have CN := Hid.mk' (none_any base W P l al m cl line b3 b4 b5 k (f + 1 + i) hl hf HL.out.c3 HL.out.c4 HL.out.c5 HP HT)
  have c8 := HL.out.c8
  have c9 := HL.out.c9
  have hw1 : IntKind.i64.wrap ((f : Int) + 1) = (f : Int) + 1 := by rw [IntKind.wrap_i64]; omega
  have hw2 : IntKind.i64.wrap ((f : Int) + 1 + (i : Int)) = ((f + 1 + i : Nat) : Int) := by rw [IntKind.wrap_i64]; omega
  go_enter Try.func99, Try.ntmps99
  go_wp2_with fail
  refine CN.out.mono ?_
  rintro e w2 ⟨rfl, hb2⟩
  go_wp2
  go_ret
  exact ⟨rfl, hb2⟩
end Go.Proofs.Ytaakgoojcogbcaa
/- hunt: sort.Search with lastMatch's question. -/
namespace Go.Proofs.Ytaakgoojcogbcaa
open Go.RowKit
/-- what the halves leave -/
def ShP (l : List Th) (line : List UInt8) (k f n : Nat) (W : World) (e : Ending) (W' : World) : Prop :=
  ∃ r : Nat, e = .returned (.int .i64 (r : Int)) ∧ r ≤ n ∧ (r = 0 ∨ nn l line k (f + r) = false) ∧ (r = n ∨ nn l line k (f + 1 + r) = true) ∧ Below W.heap.size W W'
set_option maxRecDepth 8000 in
set_option maxHeartbeats 4000000 in
theorem search_any (base : Nat) (W : World) (P : Nat) (l : List Th) (al : Option Addr) (m cl : Nat) (line : List UInt8) (b3 b4 b5 b8 b9 k f n : Nat) (hl : l.length ≤ 256) (hf : f + n ≤ m) (HL : Hid (Lb W P al m cl b3 b4 b5 b8 b9 k f)) (HP : Hid (Pat base W P l)) (HT : Hid (Tx W al m cl line)) :
    Calls Try.prog 98 #[.int .i64 (n : Int), .func (.func 99) #[] #[.pointer (some ⟨b8, 0, none⟩), .pointer (some ⟨b9, 0, none⟩)]] W fun e W' => ShP l line k f n W e W' := by
  have hbig := HT.out.big
  go_enter Try.func98, Try.ntmps98
  go_wp2_with fail
  go_loopg [5, 6, 7] n (fun g x5 x6 x7 wx => ∃ i j : Nat, x5 = .int .i64 (i : Int) ∧ x6 = .int .i64 (j : Int) ∧ i ≤ j ∧ j ≤ n ∧ g = j - i ∧ Hid (i = 0 ∨ nn l line k (f + i) = false) ∧ Hid (j = n ∨ nn l line k (f + 1 + j) = true) ∧ Hid (Below W.heap.size W wx))
  case atStart => exact ⟨0, n, rfl, rfl, by omega, by omega, by omega, .inl rfl, .inl rfl, Below.refl _ _⟩
  case round =>
    obtain ⟨i, j, rfl, rfl, hij, hjn, hg, H1, H2, HB⟩ := hrel
    by_cases hlt : i < j
    · have hlt' : (i : Int) < (j : Int) := by omega
      have hw1 : IntKind.i64.wrap ((i : Int) + (j : Int)) = (i : Int) + (j : Int) := by rw [IntKind.wrap_i64]; omega
      go_wp2_with fail
      have hh : ((i : Int) + (j : Int)) / 2 = (((i + j) / 2 : Nat) : Int) := by omega
      rw [hh]
      obtain ⟨h, HH⟩ : ∃ h, Hid ((i + j) / 2 = h) := ⟨_, rfl⟩
      have hh1 : i ≤ h := by have := HH.out; omega
      have hh2 : h < j := by have := HH.out; omega
      rw [HH.out]
      clear hh HH
      refine (none2_any base wr P l al m cl line b3 b4 b5 b8 b9 k f h hl (by omega) (HL.out.keep HB.out) (HP.out.keep HB.out) (HT.out.keep HB.out)).mono ?_
      rintro e w1 ⟨rfl, hb1⟩
      have HB1 := Hid.mk' (bT HB.out hb1)
      have hw2 : IntKind.i64.wrap ((h : Int) + 1) = ((h + 1 : Nat) : Int) := by rw [IntKind.wrap_i64]; omega
      cases hq : nn l line k (f + 1 + h) with
      | false =>
        have HQ := Hid.mk' hq
        clear hb1 hq
        go_wp2
        go_roundg (j - (h + 1))
        case measure => omega
        case rel => exact ⟨h + 1, j, rfl, rfl, by omega, hjn, rfl, .inr (by rw [show f + (h + 1) = f + 1 + h by omega]; exact HQ.out), H2.out, HB1.out⟩
      | true =>
        have HQ := Hid.mk' hq
        clear hb1 hq
        go_wp2
        go_roundg (h - i)
        case measure => omega
        case rel => exact ⟨i, h, rfl, rfl, hh1, by omega, rfl, H1.out, .inr HQ.out, HB1.out⟩
    · have hlt' : ¬ ((i : Int) < (j : Int)) := by omega
      have HE : Hid (i = j) := by unfold Hid; omega
      go_wp2
      go_ret
      exact ⟨i, rfl, by omega, H1.out, by rw [HE.out]; exact H2.out, HB.out⟩
end Go.Proofs.Ytaakgoojcogbcaa
/- hunt: lastMatch. -/
namespace Go.Proofs.Ytaakgoojcogbcaa
open Go.RowKit
/-- lastMatch's five boxes -/
structure Lk (W wx : World) (P : Nat) (al : Option Addr) (m cl k f : Nat) : Prop where
  bel : Below W.heap.size W wx
  k3 : Blk wx W.heap.size 25 #[.pointer (some ⟨P, 0, none⟩)]
  k4 : Blk wx (W.heap.size + 1) 22 #[.slice al m cl]
  k5 : Blk wx (W.heap.size + 1 + 1) 3 #[.int .i64 (k : Int)]
  k8 : Blk wx (W.heap.size + 1 + 1 + 1) 102 #[.func (.func 97) #[] #[.pointer (some ⟨W.heap.size, 0, none⟩), .pointer (some ⟨W.heap.size + 1, 0, none⟩), .pointer (some ⟨W.heap.size + 1 + 1, 0, none⟩)]]
  k9 : Blk wx (W.heap.size + 1 + 1 + 1 + 1) 3 #[.int .i64 (f : Int)]
section
variable {W wx wy : World} {P : Nat} {al : Option Addr} {m cl k f : Nat}
theorem Lk.keep (h : Lk W wx P al m cl k f) (hb : Below wx.heap.size wx wy) : Lk W wy P al m cl k f := ⟨bT h.bel hb, h.k3.keep hb, h.k4.keep hb, h.k5.keep hb, h.k8.keep hb, h.k9.keep hb⟩
theorem Lk.put (h : Lk W wx P al m cl k f) (g : Nat) : Lk W (wx.setCell ⟨W.heap.size + 1 + 1 + 1 + 1, 0, none⟩ (.int .i64 (g : Int))) P al m cl k g :=
  ⟨h.bel.setCell (by show W.heap.size ≤ W.heap.size + 1 + 1 + 1 + 1; omega) _, h.k3.off (by omega) _, h.k4.off (by omega) _, h.k5.off (by omega) _, h.k8.off (by omega) _, h.k9.set (j := 0) _⟩
theorem Lk.lb (h : Lk W wx P al m cl k f) : Lb wx P al m cl W.heap.size (W.heap.size + 1) (W.heap.size + 1 + 1) (W.heap.size + 1 + 1 + 1) (W.heap.size + 1 + 1 + 1 + 1) k f :=
  ⟨h.k3.cell (j := 0) rfl, h.k4.cell (j := 0) rfl, h.k5.cell (j := 0) rfl, h.k8.cell (j := 0) rfl, h.k9.cell (j := 0) rfl⟩
end
/-- what lastMatch answers -/
def LmP (l : List Th) (line : List UInt8) (k : Nat) (W : World) (e : Ending) (W' : World) : Prop := ∃ (x : Nat) (ok : Bool), e = .returned (.tuple #[.int .i64 (x : Int), .bool ok]) ∧ LM l line k x ok ∧ Below W.heap.size W W'
set_option maxRecDepth 8000 in
set_option maxHeartbeats 8000000 in
theorem lastMatch_any (base : Nat) (W : World) (P : Nat) (l : List Th) (al : Option Addr) (m cl : Nat) (line : List UInt8) (k : Nat) (hl : l.length ≤ 256) (hk : k ≤ m) (HP : Hid (Pat base W P l)) (HT : Hid (Tx W al m cl line)) :
    Calls Try.prog 89 #[.pointer (some ⟨P, 0, none⟩), .slice al m cl, .int .i64 (k : Int)] W fun e W' => LmP l line k W e W' := by
  have hbig := HT.out.big
  have hkb : (k : Int) ≤ 140737488355328 := by omega
  go_enter Try.func89, Try.ntmps89
  go_wp2_with fail
  go_loopg [10] (k + 1) (fun g x10 wx => ∃ r s : Nat, x10 = .int .i64 (s : Int) ∧ r ≤ k ∧ 0 < s ∧ (s + r = k + 1 ∨ (r = 0 ∧ s ≤ 2 * (k + 1))) ∧ g = r + 1 ∧ Hid (Lk W wx P al m cl k r))
  case atStart =>
    refine ⟨k, 1, rfl, Nat.le_refl _, by omega, .inl (by omega), rfl, ?_⟩
    have a0 := Blk.new W 25 #[.pointer (some ⟨P, 0, none⟩)]
    have a1 := Blk.new (W.alloc (.cells #[.pointer (some ⟨P, 0, none⟩)] 25)) 22 #[.slice al m cl]
    have a2 := Blk.new ((W.alloc (.cells #[.pointer (some ⟨P, 0, none⟩)] 25)).alloc (.cells #[.slice al m cl] 22)) 3 #[.int .i64 (k : Int)]
    have a3 := Blk.new (((W.alloc (.cells #[.pointer (some ⟨P, 0, none⟩)] 25)).alloc (.cells #[.slice al m cl] 22)).alloc (.cells #[.int .i64 (k : Int)] 3)) 102 #[.func (.func 97) #[] #[.pointer (some ⟨W.heap.size, 0, none⟩), .pointer (some ⟨W.heap.size + 1, 0, none⟩), .pointer (some ⟨W.heap.size + 1 + 1, 0, none⟩)]]
    have a4 := Blk.new ((((W.alloc (.cells #[.pointer (some ⟨P, 0, none⟩)] 25)).alloc (.cells #[.slice al m cl] 22)).alloc (.cells #[.int .i64 (k : Int)] 3)).alloc (.cells #[.func (.func 97) #[] #[.pointer (some ⟨W.heap.size, 0, none⟩), .pointer (some ⟨W.heap.size + 1, 0, none⟩), .pointer (some ⟨W.heap.size + 1 + 1, 0, none⟩)]] 102)) 3 #[.int .i64 (k : Int)]
    simp only [World.size_alloc] at a1 a2 a3 a4
    have up : ∀ (V : World) (o : Obj), Below V.heap.size V (V.alloc o) := fun V o => bAlloc (Below.refl _ _) o
    exact ⟨bAlloc (bAlloc (bAlloc (bAlloc (bAlloc (Below.refl _ _) _) _) _) _) _, (((a0.keep (up _ _)).keep (up _ _)).keep (up _ _)).keep (up _ _), ((a1.keep (up _ _)).keep (up _ _)).keep (up _ _), (a2.keep (up _ _)).keep (up _ _), a3.keep (up _ _), a4⟩
  case round =>
    obtain ⟨r, s, rfl, hr, hs, hrs, hg, HL⟩ := hrel
    have c8 := HL.out.lb.c8
    have c9 := HL.out.lb.c9
    have CN := Hid.mk' (none_any base wr P l al m cl line _ _ _ k r hl (by omega) HL.out.lb.c3 HL.out.lb.c4 HL.out.lb.c5 (HP.out.keep HL.out.bel) (HT.out.keep HL.out.bel))
    go_wp2_with fail
    refine CN.out.mono ?_
    rintro e w1 ⟨rfl, hb1⟩
    have L1 := Hid.mk' (HL.out.keep hb1)
    have d9 := L1.out.lb.c9
    have d5 := L1.out.lb.c5
    have z9 := L1.out.k9.frozen 0
    clear hb1 HL CN c8 c9
    cases hq : nn l line k r with
    | true =>
      have HQ := Hid.mk' hq
      clear hq
      by_cases hr0 : r = 0
      · subst hr0
        go_wp2
        go_ret2
        exact ⟨0, false, rfl, lm_none HQ.out, L1.out.bel⟩
      · have hr0' : ((r : Int) == 0) = false := by simp; omega
        have hw1 : IntKind.i64.wrap ((r : Int) - (s : Int)) = (r : Int) - (s : Int) := by rw [IntKind.wrap_i64]; omega
        have hmax : max (0 : Int) ((r : Int) - (s : Int)) = ((r - s : Nat) : Int) := by omega
        have hw2 : IntKind.i64.wrap ((s : Int) * 2) = ((2 * s : Nat) : Int) := by rw [IntKind.wrap_i64]; omega
        go_wp2
        go_roundg (r - s + 1)
        case measure => omega
        case rel => exact ⟨r - s, 2 * s, rfl, by omega, by omega, by omega, rfl, L1.out.put (r - s)⟩
    | false =>
      have HQ := Hid.mk' hq
      clear hq
      have hw1 : IntKind.i64.wrap ((k : Int) - (r : Int)) = ((k - r : Nat) : Int) := by rw [IntKind.wrap_i64]; omega
      have hS0 : (w1.drew).cell? ⟨W.heap.size + 1 + 1 + 1 + 1, 0, none⟩ = some (.int .i64 (r : Int)) ∧ (w1.drew).cell? ⟨W.heap.size + 1 + 1, 0, none⟩ = some (.int .i64 (k : Int)) := ⟨d9, d5⟩
      have L2 := Hid.mk' (L1.out.keep (Below.refl _ _).drew)
      have CS := Hid.mk' (search_any base (w1.drew) P l al m cl line _ _ _ _ _ k r (k - r) hl (by omega) L2.out.lb (HP.out.keep L2.out.bel) (HT.out.keep L2.out.bel))
      go_wp2_with fail
      go_region_held3 (fun w' => w'.cell? ⟨W.heap.size + 1 + 1 + 1 + 1, 0, none⟩ = some (.int .i64 (r : Int)) ∧ w'.cell? ⟨W.heap.size + 1 + 1, 0, none⟩ = some (.int .i64 (k : Int))) (with_reducible assumption)
        (first | (go_at_call 98; refine CS.out.mono ?_; rintro e w2 ⟨x, rfl, hx1, hx2, hx3, hb2⟩; have hS2 := And.intro (keepC hb2 hS0.1) (keepC hb2 hS0.2); have hw5 : IntKind.i64.wrap ((r : Int) + (x : Int)) = ((r + x : Nat) : Int) := (by rw [IntKind.wrap_i64]; omega); have HX := Hid.mk' (lm_found HQ.out rfl hr hx2 hx3 hx1); clear hx2 hx3) | fail)
      all_goals go_wp2
      all_goals go_ret2
      all_goals exact ⟨r + x, true, rfl, HX.out, bT L2.out.bel hb2⟩
end Go.Proofs.Ytaakgoojcogbcaa
