/- The contract of bytes.Clone: a nil list gives nil, any other list of bytes a new list with the same bytes. -/
import Derived.Test.YtmhpeppbhjpkiaaGreatPm07
import Derived.Lib.SlBytesConst
import Derived.Deep.RegionWith
import Derived.Deep.QuietTactic
import Derived.BigQuiet
import Derived.Deep.RegionHeld3
namespace Go.Proofs.YtmhpeppbhjpkiaaGreat.Ab
open Go.RowKit

/-- Bytes as cells. -/
def bv (l : List UInt8) : List Value := l.map fun b => Value.int .u8 (b.toNat : Int)
theorem bv_length (l : List UInt8) : (bv l).length = l.length := by simp [bv]
theorem bv_at (l : List UInt8) (j : Nat) (h : j < l.length) : (bv l)[j]? = some (.int .u8 (l[j].toNat : Int)) := by simp [bv, h]
theorem bv_append (l r : List UInt8) : bv (l ++ r) = bv l ++ bv r := by simp [bv]
theorem bv_one (l : List UInt8) : ∀ u ∈ bv l, u.oneCell' = true := by
  intro u hu; obtain ⟨x, _, rfl⟩ := List.mem_map.1 hu; rfl

theorem info5 : (Tryz.prog.info? 5).map (fun i => (i.zero, i.size, i.bytes)) = some (some (.int .u8 0), 1, 1) := by kernel_rfl

/-- A list value whose bytes are l, in the world W. -/
def Rd (W : World) (v : Value) (l : List UInt8) : Prop :=
  (v = .slice none 0 0 ∧ l = []) ∨ ∃ (a : Addr) (c : Nat), v = .slice (some a) l.length c ∧ ∀ j u, (bv l)[j]? = some u → W.cell? (a.add j) = some u

set_option maxHeartbeats 400000 in
theorem clone_nil (n c : Nat) (w : World) : Calls Tryz.prog 48 #[.slice none n c] w fun e w' => e = .returned (.slice none 0 0) ∧ w' = w := by
  have q22 : ∀ (w : World) (a : Option Addr) (n c n' c' : Nat), (binOp .eql 22 (.slice a n c) (.slice none n' c')).run Tryz.prog w = .ok (.bool a.isNone) w := fun w a n c n' c' => Lib.run_eql_slice_nil w _ _ a n c n' c' Tryz.underlying22
  go_enter Tryz.func48, Tryz.ntmps48
  go_wp2
  go_ret
  exact ⟨rfl, rfl⟩

set_option maxHeartbeats 800000 in
theorem clone_some (a : Addr) (c : Nat) (l : List UInt8) (w : World) (hbig : l.length ≤ 140737488355328) (hc : Hid (∀ j u, (bv l)[j]? = some u → w.cell? (a.add j) = some u)) :
    Calls Tryz.prog 48 #[.slice (some a) l.length c] w fun e w' => ∃ v', e = .returned v' ∧ w'.ownsRow w.heap.size 5 1 v' l.length (bv l) ∧ v' ≠ .slice none 0 0 ∧ Below w.heap.size w w' := by
  obtain ⟨i0, hi, hz0, hz1, hz2⟩ := info_parts info5
  have q22 : ∀ (w : World) (a : Option Addr) (n c n' c' : Nat), (binOp .eql 22 (.slice a n c) (.slice none n' c')).run Tryz.prog w = .ok (.bool a.isNone) w := fun w a n c n' c' => Lib.run_eql_slice_nil w _ _ a n c n' c' Tryz.underlying22
  go_enter Tryz.func48, Tryz.ntmps48
  go_wp2_with (at_builtin; refine wpList_append_own _ rfl _ _ 22 rfl w.heap.size 5 i0 (.int .u8 0) 1 1 Tryz.underlying22 hi hz0 hz1 hz2 rfl (by decide) _ _ _ rfl (World.ownsRow_made w #[] 0 (Nat.le_refl _) (Nat.zero_le _) rfl) a l.length c (bv l) rfl ?qc1 ?qc2 ?qc3 ?qc4 ?qc5 ?qc6 ?_)
  case qc1 => simp [bv_length]
  case qc2 => exact fun j u hj => Lib.cell?_alloc_marked _ (hc.out j u hj)
  case qc3 => exact bv_one l
  case qc4 => unfold maxLen; omega
  case qc5 => omega
  case qc6 => simp
  intro v' w1 hown hgrow hnil
  go_wp2
  go_ret
  refine ⟨v', rfl, by simpa using hown, ?_, ?_⟩
  · first | exact hnil | (intro e; exact absurd (hnil.1 e).1 (by simp))
  · exact ((Below.refl _ w).alloc (Nat.le_refl _) _).grown hgrow (by simp) (by intro k hk; simp [Value.ownBlock] at hk; omega)

theorem own_shape {w : World} {base e size n : Nat} {v : Value} {xs : List Value} (h : w.ownsRow base e size v n xs) : ∃ ao cap, v = .slice ao n cap := by
  rcases h.2 with ⟨rfl, rfl⟩ | ⟨g, cap, cur, rfl, _⟩
  · exact ⟨_, _, rfl⟩
  · exact ⟨_, _, rfl⟩

theorem clone_any (v : Value) (l : List UInt8) (w : World) (hbig : l.length ≤ 140737488355328) (h : Rd w v l) :
    Calls Tryz.prog 48 #[v] w fun e w' => ∃ ao cap, e = .returned (.slice ao l.length cap) ∧ w'.ownsRow w.heap.size 5 1 (.slice ao l.length cap) l.length (bv l) ∧ Below w.heap.size w w' := by
  rcases h with ⟨rfl, rfl⟩ | ⟨a, c, rfl, hc⟩
  · refine (clone_nil 0 0 w).mono ?_
    rintro e w' ⟨rfl, rfl⟩
    exact ⟨_, _, rfl, World.ownsRow_nil _ _ _ _, Below.refl _ _⟩
  · refine (clone_some a c l w hbig hc).mono ?_
    rintro e w' ⟨v', rfl, h1, _, h2⟩
    obtain ⟨ao, cap, rfl⟩ := own_shape h1
    exact ⟨ao, cap, rfl, h1, h2⟩
end Go.Proofs.YtmhpeppbhjpkiaaGreat.Ab

/- The contract of addbuf.New: a buffer with a copy of the bytes, and nothing added. -/
namespace Go.Proofs.YtmhpeppbhjpkiaaGreat.Ab
open Go.RowKit

/-- Block b of W is a buffer with the original text O and the added bytes A, all in blocks from base on; its two lists are the values vo and va. -/
structure BufAt (W : World) (base b : Nat) (vo va : Value) (O A : List UInt8) : Prop where
  lo : base ≤ b
  here : W.heap[b]? = some (.cells #[vo, va] 94 (0, 0))
  orig : W.ownsRow base 5 1 vo O.length (bv O)
  added : W.ownsRow base 5 1 va A.length (bv A)
  apart : vo.ownBlock = none ∨ vo.ownBlock ≠ va.ownBlock

set_option maxHeartbeats 400000 in
theorem new_any (v : Value) (l : List UInt8) (w : World) (hbig : l.length ≤ 140737488355328) (h : Hid (Rd w v l)) :
    Calls Tryz.prog 18 #[v] w fun e w' => ∃ b vo, e = .returned (.pointer (some ⟨b, 0, none⟩)) ∧ BufAt w' w.heap.size b vo (.slice none 0 0) l [] ∧ Below w.heap.size w w' := by
  go_enter Tryz.func18, Tryz.ntmps18
  go_wp2_with fail
  refine (clone_any v l _ hbig h).mono ?_
  rintro e w1 ⟨ao, cap, rfl, hown, hb⟩
  go_wp2
  go_ret
  refine ⟨_, _, rfl, ⟨hb.size, heap_alloc_new _ _, hown.alloc _, World.ownsRow_nil _ _ _ _, ?_⟩, bAlloc hb _⟩
  cases ao <;> simp [Value.ownBlock]

/-! ### What a buffer is good for, and how it stays -/

theorem below_grown {w w' : World} (h : Below w.heap.size w w') : w.grownBy w' none := ⟨h.os, h.tape, h.output, h.size, fun k hk _ => h.block k hk⟩

theorem own_keep {w w' : World} {base e size n : Nat} {v : Value} {xs : List Value} (h : w.ownsRow base e size v n xs) (hb : Below w.heap.size w w') : w'.ownsRow base e size v n xs :=
  h.kept (below_grown hb) (by cases hv : v.ownBlock <;> simp)

theorem BufAt.lt {W : World} {base b : Nat} {vo va : Value} {O A : List UInt8} (h : BufAt W base b vo va O A) : b < W.heap.size := (Array.getElem?_eq_some_iff.1 h.here).1

theorem BufAt.keep {W W' : World} {base b : Nat} {vo va : Value} {O A : List UInt8} (h : BufAt W base b vo va O A) (hb : Below W.heap.size W W') : BufAt W' base b vo va O A :=
  ⟨h.lo, by rw [hb.block b h.lt]; exact h.here, own_keep h.orig hb, own_keep h.added hb, h.apart⟩

theorem BufAt.alloc {W : World} {base b : Nat} {vo va : Value} {O A : List UInt8} (h : BufAt W base b vo va O A) (x : Obj) : BufAt (W.alloc x) base b vo va O A :=
  h.keep (bAlloc (Below.refl _ _) x)

theorem BufAt.drew {W : World} {base b : Nat} {vo va : Value} {O A : List UInt8} (h : BufAt W base b vo va O A) : BufAt W.drew base b vo va O A :=
  h.keep (Below.refl _ _).drew

theorem BufAt.cell0 {W : World} {base b : Nat} {vo va : Value} {O A : List UInt8} (h : BufAt W base b vo va O A) : W.cell? ⟨b, 0, none⟩ = some vo := by
  rw [cell_of_row W b 0 _ 94 (0, 0) h.here]; rfl
theorem BufAt.cell1 {W : World} {base b : Nat} {vo va : Value} {O A : List UInt8} (h : BufAt W base b vo va O A) : W.cell? ⟨b, 1, none⟩ = some va := by
  rw [cell_of_row W b 1 _ 94 (0, 0) h.here]; rfl

/-- an owned list is one that can be read -/
theorem own_rd {w : World} {base : Nat} {v : Value} {l : List UInt8} (h : w.ownsRow base 5 1 v l.length (bv l)) : Rd w v l := by
  rcases h.2 with ⟨rfl, h0⟩ | ⟨g, cap, cur, rfl, _⟩
  · exact .inl ⟨rfl, List.eq_nil_of_length_eq_zero h0⟩
  · exact .inr ⟨_, _, rfl, fun j u hu => h.cells rfl j u hu⟩

theorem Rd.keep {w w' : World} {v : Value} {l : List UInt8} (h : Rd w v l) (hb : Below w.heap.size w w') : Rd w' v l := by
  rcases h with ⟨rfl, rfl⟩ | ⟨a, c, rfl, hc⟩
  · exact .inl ⟨rfl, rfl⟩
  · refine .inr ⟨a, c, rfl, fun j u hu => ?_⟩
    have h1 := hc j u hu
    have hlt : (a.add j).block < w.heap.size := by
      rcases Nat.lt_or_ge (a.add j).block w.heap.size with h' | h'
      · exact h'
      · simp [World.cell?, Array.getElem?_eq_none h'] at h1
    rw [hb.cell hlt]; exact h1
end Go.Proofs.YtmhpeppbhjpkiaaGreat.Ab

/- The contracts of (*Buffer).source and (*Buffer).Size, for every buffer, the nil one too, and every number. -/
namespace Go.Proofs.YtmhpeppbhjpkiaaGreat.Ab
open Go.RowKit

/-- A buffer's pointer p: nil, or a buffer that New made: its original text and what was added. -/
def Bf (W : World) (base : Nat) (p : Option Addr) (O A : List UInt8) : Prop :=
  (p = none ∧ O = [] ∧ A = []) ∨ ∃ b vo va, p = some ⟨b, 0, none⟩ ∧ BufAt W base b vo va O A

theorem Bf.keep {W W' : World} {base : Nat} {p : Option Addr} {O A : List UInt8} (h : Bf W base p O A) (hb : Below W.heap.size W W') : Bf W' base p O A := by
  rcases h with h | ⟨b, vo, va, rfl, h⟩
  · exact .inl h
  · exact .inr ⟨b, vo, va, rfl, h.keep hb⟩
theorem Bf.alloc {W : World} {base : Nat} {p : Option Addr} {O A : List UInt8} (h : Bf W base p O A) (x : Obj) : Bf (W.alloc x) base p O A := h.keep (bAlloc (Below.refl _ _) x)
theorem Bf.drew {W : World} {base : Nat} {p : Option Addr} {O A : List UInt8} (h : Bf W base p O A) : Bf W.drew base p O A := h.keep (Below.refl _ _).drew

/-- The bytes of the one buffer or the other. -/
def which (k : Int) (O A : List UInt8) : List UInt8 := if k = 0 then O else if k = 1 then A else []

theorem own_le {w : World} {base e n : Nat} {v : Value} {xs : List Value} (h : w.ownsRow base e 1 v n xs) : n ≤ maxLen := by
  rcases h.2 with ⟨_, h0⟩ | ⟨_, cap, _, _, _, _, h1, h2, _⟩
  · omega
  · omega

set_option maxHeartbeats 400000 in
theorem source_any (p : Option Addr) (k : Int) (O A : List UInt8) (base : Nat) (w : World) (h : Hid (Bf w base p O A)) :
    Calls Tryz.prog 115 #[.pointer p, .int .i64 k] w fun e w' => ∃ ao c, e = .returned (.slice ao (which k O A).length c) ∧ w' = w ∧ w.ownsRow base 5 1 (.slice ao (which k O A).length c) (which k O A).length (bv (which k O A)) := by
  rcases h.out with ⟨rfl, rfl, rfl⟩ | ⟨b, vo, va, rfl, hB⟩
  · have e0 : which k [] [] = [] := by unfold which; split <;> (try split) <;> rfl
    rw [e0]
    clear h e0
    go_enter Tryz.func115, Tryz.ntmps115
    go_wp2
    go_ret
    exact ⟨_, _, rfl, rfl, World.ownsRow_nil _ _ _ _⟩
  · have c0 := hB.cell0
    have c1 := hB.cell1
    have o0 : Hid (w.ownsRow base 5 1 vo O.length (bv O)) := hB.orig
    have o1 : Hid (w.ownsRow base 5 1 va A.length (bv A)) := hB.added
    obtain ⟨a0, n0, rfl⟩ := own_shape o0.out
    obtain ⟨a1, n1, rfl⟩ := own_shape o1.out
    clear h hB
    by_cases k0 : k = 0
    · subst k0
      have e0 : which 0 O A = O := by simp [which]
      rw [e0]
      clear e0
      go_enter Tryz.func115, Tryz.ntmps115
      go_wp2
      go_ret
      exact ⟨_, _, rfl, rfl, o0.out⟩
    · by_cases k1 : k = 1
      · subst k1
        have e0 : which 1 O A = A := by simp [which]
        rw [e0]
        clear e0
        go_enter Tryz.func115, Tryz.ntmps115
        go_wp2
        go_ret
        exact ⟨_, _, rfl, rfl, o1.out⟩
      · have e0 : which k O A = [] := by simp [which, k0, k1]
        rw [e0]
        clear e0
        go_enter Tryz.func115, Tryz.ntmps115
        go_wp2
        go_ret
        exact ⟨_, _, rfl, rfl, World.ownsRow_nil _ _ _ _⟩

set_option maxHeartbeats 400000 in
theorem size_any (p : Option Addr) (k : Int) (O A : List UInt8) (base : Nat) (w : World) (h : Hid (Bf w base p O A)) :
    Calls Tryz.prog 70 #[.pointer p, .int .i64 k] w fun e w' => e = .returned (.int .i64 ((which k O A).length : Int)) ∧ w' = w := by
  go_enter Tryz.func70, Tryz.ntmps70
  go_wp2_with (go_at_call 115; refine (source_any _ _ O A base _ h).mono ?_; rintro e w' ⟨ao, c, rfl, rfl, -⟩)
  go_ret
  exact ⟨rfl, rfl⟩
end Go.Proofs.YtmhpeppbhjpkiaaGreat.Ab

/- The contract of (*Buffer).Holds, for every buffer, the nil one too, and every span. -/
namespace Go.Proofs.YtmhpeppbhjpkiaaGreat.Ab
open Go.RowKit

/-- Does the buffer hold the span? -/
def hdB (s o l : Int) (O A : List UInt8) : Bool := sndB s o l && decide (o + l ≤ ((which s O A).length : Int))

theorem sound_true (s o l : Int) (w : World) (hs : sndB s o l = true) :
    Calls Tryz.prog 119 #[.agg #[.int .i64 s, .int .i64 o, .int .i64 l]] w fun e w' => e = .returned (.bool true) ∧ w' = w.alloc (.cells #[.int .i64 s, .int .i64 o, .int .i64 l] 57) := by
  have ba := snd_bd hs
  have h := sound_any s o l w (by omega) (by omega)
  rwa [hs] at h
theorem sound_false (s o l : Int) (w : World) (h1 : -9223372036854775808 ≤ l) (h2 : l ≤ 9223372036854775807) (hs : sndB s o l = false) :
    Calls Tryz.prog 119 #[.agg #[.int .i64 s, .int .i64 o, .int .i64 l]] w fun e w' => e = .returned (.bool false) ∧ w' = w.alloc (.cells #[.int .i64 s, .int .i64 o, .int .i64 l] 57) := by
  have h := sound_any s o l w h1 h2
  rwa [hs] at h

set_option maxHeartbeats 1000000 in
theorem holds_yes (p : Option Addr) (s o l : Int) (O A : List UInt8) (base : Nat) (w : World) (hs : sndB s o l = true) (h : Hid (Bf w base p O A)) :
    Calls Tryz.prog 84 #[.pointer p, .agg #[.int .i64 s, .int .i64 o, .int .i64 l]] w fun e w' => e = .returned (.bool (decide (o + l ≤ ((which s O A).length : Int)))) ∧ Below w.heap.size w w' := by
  have ba := snd_bd hs
  go_enter Tryz.func84, Tryz.ntmps84
  go_wp2
  go_region_held3 (fun w' => w'.cell? ⟨w.heap.size, 0, none⟩ = some (.int .i64 s) ∧ w'.cell? ⟨w.heap.size, 1, none⟩ = some (.int .i64 o) ∧ w'.cell? ⟨w.heap.size, 2, none⟩ = some (.int .i64 l)) (simp [go_sem, World.cell?_alloc_past])
    (first | (go_at_call 119; refine (sound_true s o l _ hs).mono ?_; rintro e w' ⟨rfl, rfl⟩) | (go_at_call 70; refine (size_any _ _ O A base _ ?_).mono ?_; exact ((h.out.alloc _).alloc _).drew; rintro e w' ⟨rfl, rfl⟩))
  go_wp2
  go_ret
  refine ⟨ret_bool ?_, (bAlloc (bAlloc (Below.refl _ _) _) _).drew⟩
  rw [show IntKind.i64.wrap (o + l) = o + l from by rw [IntKind.wrap_i64]; omega]

set_option maxHeartbeats 1000000 in
theorem holds_no (p : Option Addr) (s o l : Int) (w : World) (h1 : -9223372036854775808 ≤ l) (h2 : l ≤ 9223372036854775807) (hs : sndB s o l = false) :
    Calls Tryz.prog 84 #[.pointer p, .agg #[.int .i64 s, .int .i64 o, .int .i64 l]] w fun e w' => e = .returned (.bool false) ∧ Below w.heap.size w w' := by
  go_enter Tryz.func84, Tryz.ntmps84
  go_wp2
  refine wp_region_any (by kernel_rfl) ?_
  change wpAny _ _ _ _ _ _ _ (World.drew _)
  refine wpAny_ready (rs := [0]) (by kernel_rfl) (by simp) (AllReady.cons rfl (fun K hK => ?_) AllReady.nil)
  go_simp
  refine hK _ _ ?_
  clear hK K
  refine wpAny_ready (rs := [1]) (by kernel_rfl) (by simp) (AllReady.cons rfl (fun K hK => ?_) AllReady.nil)
  go_simp
  go_wp2_with (go_at_call 119; refine (sound_false s o l _ h1 h2 hs).mono ?_; rintro e w' ⟨rfl, rfl⟩)
  refine wpAny_take (i := 2) (v := .bool false) rfl (by kernel_rfl) (by kernel_rfl) (by kernel_rfl) (fun _ _ _ h => h) (Or.inl ⟨by kernel_rfl, fun w => by go_simp⟩) ?_
  refine wpAny_take (i := 3) (v := undef) rfl (by kernel_rfl) (by kernel_rfl) (by kernel_rfl) (fun _ _ _ h => h) (Or.inr ⟨by kernel_rfl, rfl⟩) ?_
  refine wpAny_take (i := 4) (v := undef) rfl (by kernel_rfl) (by kernel_rfl) (by kernel_rfl) (fun _ _ _ h => h) (Or.inr ⟨by kernel_rfl, rfl⟩) ?_
  refine wpAny_take (i := 5) (v := undef) rfl (by kernel_rfl) (by kernel_rfl) (by kernel_rfl) (fun _ _ _ h => h) (Or.inr ⟨by kernel_rfl, rfl⟩) ?_
  refine wpAny_take (i := 6) (v := undef) rfl (by kernel_rfl) (by kernel_rfl) (by kernel_rfl) (fun _ _ _ h => h) (Or.inr ⟨by kernel_rfl, rfl⟩) ?_
  refine wpAny_take (i := 7) (v := undef) rfl (by kernel_rfl) (by kernel_rfl) (by kernel_rfl) (fun _ _ _ h => h) (Or.inr ⟨by kernel_rfl, rfl⟩) ?_
  refine wpAny_take (i := 8) (v := undef) rfl (by kernel_rfl) (by kernel_rfl) (by kernel_rfl) (fun _ _ _ h => h) (Or.inr ⟨by kernel_rfl, rfl⟩) ?_
  refine wpAny_take (i := 9) (v := undef) rfl (by kernel_rfl) (by kernel_rfl) (by kernel_rfl) (fun _ _ _ h => h) (Or.inr ⟨by kernel_rfl, rfl⟩) ?_
  refine wpAny_take (i := 10) (v := undef) rfl (by kernel_rfl) (by kernel_rfl) (by kernel_rfl) (fun _ _ _ h => h) (Or.inr ⟨by kernel_rfl, rfl⟩) ?_
  refine wpAny_take (i := 11) (v := undef) rfl (by kernel_rfl) (by kernel_rfl) (by kernel_rfl) (fun _ _ _ h => h) (Or.inr ⟨by kernel_rfl, rfl⟩) ?_
  refine wpAny_take (i := 12) (v := undef) rfl (by kernel_rfl) (by kernel_rfl) (by kernel_rfl) (fun _ _ _ h => h) (Or.inr ⟨by kernel_rfl, rfl⟩) ?_
  refine wpAny_take (i := 13) (v := .bool false) rfl (by kernel_rfl) (by kernel_rfl) (by kernel_rfl) (fun _ _ _ h => h) (Or.inl ⟨by kernel_rfl, fun w => by go_simp⟩) ?_
  refine wpAny_take (i := 14) (v := .bool false) rfl (by kernel_rfl) (by kernel_rfl) (by kernel_rfl) (fun _ _ _ h => h) (Or.inl ⟨by kernel_rfl, fun w => by go_simp⟩) ?_
  refine wpAny_done (by kernel_rfl) ?_ _
  go_wp2
  refine bodyPost_ret (v := .bool false) (by simp [results, Tryz.results84, go_sem]) rfl ⟨rfl, ?_⟩
  exact (bAlloc (bAlloc (Below.refl _ _) _) _).drew

theorem holds_any (p : Option Addr) (s o l : Int) (O A : List UInt8) (base : Nat) (w : World) (h1 : -9223372036854775808 ≤ l) (h2 : l ≤ 9223372036854775807) (h : Hid (Bf w base p O A)) :
    Calls Tryz.prog 84 #[.pointer p, .agg #[.int .i64 s, .int .i64 o, .int .i64 l]] w fun e w' => e = .returned (.bool (hdB s o l O A)) ∧ Below w.heap.size w w' := by
  unfold hdB
  cases hs : sndB s o l with
  | true => simpa using holds_yes p s o l O A base w hs h
  | false => simpa using holds_no p s o l w h1 h2 hs
end Go.Proofs.YtmhpeppbhjpkiaaGreat.Ab

