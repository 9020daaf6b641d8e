/- A search in memory; fill, isWord, isFree. -/
import Derived.Test.YtaakgoojcogbcaaCpl
import Derived.Test.YtaakgoojcogbcaaFnd
namespace Go.Proofs.Ytaakgoojcogbcaa
open Go.RowKit
/-- m numbers in memory -/
def nva (g : Nat → Nat) (m : Nat) : Array Value := ((List.range m).map fun i => Value.int .i64 (g i : Int)).toArray
theorem nva_at (g : Nat → Nat) {m j : Nat} (h : j < m) : (nva g m)[j]? = some (.int .i64 (g j : Int)) := by simp [nva, h]
theorem nva_set (g : Nat → Nat) (m k v : Nat) : (nva g m).setIfInBounds k (.int .i64 (v : Int)) = nva (fun i => if i = k then v else g i) m := by
  apply Array.ext'
  simp only [nva, Array.toList_setIfInBounds, List.toList_toArray]
  apply List.ext_getElem
  · simp
  · intro i h1 h2
    simp only [List.length_map, List.length_range] at h2
    rw [List.getElem_set]
    simp only [List.getElem_map, List.getElem_range]
    by_cases h : k = i
    · rw [if_pos h, if_pos h.symm]
    · rw [if_neg h, if_neg (fun e => h e.symm)]
theorem nva_congr {g h : Nat → Nat} {m : Nat} (e : ∀ i, i < m → g i = h i) : nva g m = nva h m := by
  unfold nva; congr 1; apply List.map_congr_left; intro i hi; rw [e i (List.mem_range.1 hi)]
theorem gb_set (W : World) (b j : Nat) (v : Value) : W.grownBy (W.setCell ⟨b, j, none⟩ v) (some b) :=
  have h : Below 0 W (W.setCell ⟨b, j, none⟩ v) := (Below.refl 0 W).setCell (Nat.zero_le b) v
  ⟨h.os, h.tape, h.output, h.size, fun k hk hne => heap_setCell_other _ _ _ _ (fun e => hne (by rw [e]))⟩
theorem gb_trans {W W' W'' : World} {b : Option Nat} (h : W.grownBy W' b) (h2 : W'.grownBy W'' b) : W.grownBy W'' b :=
  ⟨h2.os.trans h.os, h2.tape.trans h.tape, h2.output.trans h.output, Nat.le_trans h.size h2.size, fun k hk hne => (h2.block k (Nat.lt_of_lt_of_le hk h.size) hne).trans (h.block k hk hne)⟩
theorem gb_refl (W : World) (b : Option Nat) : W.grownBy W b := ⟨rfl, rfl, rfl, Nat.le_refl _, fun _ _ _ => rfl⟩

set_option maxHeartbeats 2000000 in
theorem fill_any (W : World) (gb m : Nat) (g : Nat → Nat) (hm : m ≤ 1000) (H : Hid (Blk W gb 3 (nva g m))) :
    Calls Try.prog 55 #[.slice (some ⟨gb, 0, none⟩) m m] W fun e W' => e = .returned (.tuple #[]) ∧ W.grownBy W' (some gb) ∧ Blk W' gb 3 (nva N0s m) := by
  go_enter Try.func55, Try.ntmps55
  go_wp2
  go_loopg [2, 5] m (fun q x2 x5 wx => ∃ j : Nat, x5 = .int .i64 (j : Int) ∧ j + q = m ∧ Hid (W.grownBy wx (some gb)) ∧ Hid (Blk wx gb 3 (nva (fun i => if i < j then N0 else g i) m)))
  case atStart =>
    refine ⟨0, rfl, by omega, gb_refl _ _, ?_⟩
    have : (fun i => if i < 0 then N0 else g i) = g := by funext i; simp
    rw [this]; exact H.out
  case round =>
    obtain ⟨j, rfl, hj, HG, HB⟩ := hrel
    cases gk with
    | zero =>
      have hjm : ¬ ((j : Int) < (m : Int)) := by omega
      go_wp2
      refine bodyPost_end (v := .tuple #[]) (by simp [results, Try.results55]) rfl ⟨rfl, HG.out, ?_⟩
      have := HB.out
      rw [nva_congr (h := N0s) (fun i hi => by rw [if_pos (by omega)]; rfl)] at this
      exact this
    | succ q =>
      have hjm : (j : Int) < (m : Int) := by omega
      have c1 := HB.out.cell (nva_at _ (j := j) (by omega))
      have z1 := HB.out.frozen j
      rw [if_neg (by omega)] at c1
      go_wp2
      go_roundg q
      case measure => omega
      case rel =>
        refine ⟨j + 1, by go_num, by omega, gb_trans HG.out (gb_set _ _ _ _), ?_⟩
        have := HB.out.set (j := j) (.int .i64 (N0 : Int))
        rw [nva_set] at this
        rw [nva_congr (h := fun i => if i < j + 1 then N0 else g i) (fun i hi => by
          by_cases e : i = j
          · rw [if_pos e, if_pos (by omega)]
          · rw [if_neg e]
            by_cases e2 : i < j
            · rw [if_pos e2, if_pos (by omega)]
            · rw [if_neg e2, if_neg (by omega)])] at this
        exact this

/-- the things of a pattern, to be read -/
def Ths (W : World) (at_ : Option Addr) (l : List Th) : Prop := ∀ k, k < l.length → ∃ gt, at_ = some ⟨gt, 0, none⟩ ∧ W.cell? ⟨gt, k, none⟩ = some (env (th l k))
theorem Ths.keep {W W' : World} {at_ : Option Addr} {l : List Th} (h : Ths W at_ l) (hb : Below W.heap.size W W') : Ths W' at_ l := fun k hk => by
  obtain ⟨gt, e, hc⟩ := h k hk
  exact ⟨gt, e, keepC hb hc⟩
theorem ths_own {W : World} {base : Nat} {at_ : Option Addr} {ct : Nat} {l : List Th} (h : W.ownsRow base 120 1 (.slice at_ l.length ct) l.length (ev l)) : Ths W at_ l := by
  intro k hk
  obtain ⟨g, cp, e1, _, _⟩ := own_some h (by omega)
  injection e1 with e1 _ _
  subst e1
  refine ⟨g, rfl, ?_⟩
  rcases own_srv h with ⟨e, _⟩ | ⟨ad, c, e, hc⟩
  · cases e
  · injection e with e _ _
    injection e with e
    have := hc k _ (ev_at l hk)
    rw [← e, add_none, Nat.zero_add] at this
    exact this
/-- A search: its block, the rows begun and next. -/
structure Se (w W0 W : World) (Sb gb gn : Nat) (at_ : Option Addr) (ct : Nat) (ao : Option Addr) (nl cl : Nat) (l : List Th) (g h : Nat → Nat) : Prop where
  bel : Below w.heap.size w W
  lowS : w.heap.size ≤ Sb
  lowB : w.heap.size ≤ gb
  lowN : w.heap.size ≤ gn
  ne : gb ≠ gn
  blk : Blk W Sb 99 #[.slice at_ l.length ct, .slice ao nl cl, .slice (some ⟨gb, 0, none⟩) (l.length + 1) (l.length + 1), .slice (some ⟨gn, 0, none⟩) (l.length + 1) (l.length + 1)]
  ws : W0.heap.size ≤ W.heap.size
  oth : ∀ k, k < W0.heap.size → k ≠ Sb → k ≠ gb → k ≠ gn → W.heap[k]? = W0.heap[k]?
  bg : Blk W gb 3 (nva g (l.length + 1))
  nx : Blk W gn 3 (nva h (l.length + 1))
section
variable {w W0 W : World} {Sb gb gn : Nat} {at_ : Option Addr} {ct : Nat} {ao : Option Addr} {nl cl : Nat} {l : List Th} {g h : Nat → Nat}
theorem Se.keep {W' : World} (s : Se w W0 W Sb gb gn at_ ct ao nl cl l g h) (hb : Below W.heap.size W W') : Se w W0 W' Sb gb gn at_ ct ao nl cl l g h :=
  ⟨s.bel.trans (hb.mono s.bel.size), s.lowS, s.lowB, s.lowN, s.ne, s.blk.keep hb, Nat.le_trans s.ws hb.size, (fun k hk h1 h2 h3 => (hb.block k (Nat.lt_of_lt_of_le hk s.ws)).trans (s.oth k hk h1 h2 h3)), s.bg.keep hb, s.nx.keep hb⟩
theorem blk_ne {W : World} {A B e e' : Nat} {cs cs' : Array Value} (h : Blk W A e cs) (h' : Blk W B e' cs') (hne : e ≠ e') : A ≠ B := by
  intro hh; subst hh
  unfold Blk at h h'
  rw [h] at h'; injection h' with h'; injection h' with _ h' _; exact hne h'
/-- seen from here -/
theorem Se.here (s : Se w W0 W Sb gb gn at_ ct ao nl cl l g h) : Se w W W Sb gb gn at_ ct ao nl cl l g h :=
  ⟨s.bel, s.lowS, s.lowB, s.lowN, s.ne, s.blk, Nat.le_refl _, fun _ _ _ _ _ => rfl, s.bg, s.nx⟩
/-- another row grows -/
theorem Se.grown {W' : World} {row : Option Nat} (s : Se w W0 W Sb gb gn at_ ct ao nl cl l g h) (hg : W.grownBy W' row) (hl : ∀ k, row = some k → w.heap.size ≤ k) (h1 : row ≠ some Sb) (h2 : row ≠ some gb) (h3 : row ≠ some gn) : Se w W' W' Sb gb gn at_ ct ao nl cl l g h :=
  ⟨s.bel.grown hg s.bel.size hl, s.lowS, s.lowB, s.lowN, s.ne, grow_blk s.blk hg h1, Nat.le_refl _, fun _ _ _ _ _ => rfl, grow_blk s.bg hg h2, grow_blk s.nx hg h3⟩
/-- begun changes -/
theorem Se.begun {W' : World} {g' : Nat → Nat} (s : Se w W0 W Sb gb gn at_ ct ao nl cl l g h) (hg : W.grownBy W' (some gb)) (hb : Blk W' gb 3 (nva g' (l.length + 1))) : Se w W0 W' Sb gb gn at_ ct ao nl cl l g' h :=
  ⟨s.bel.grown hg s.bel.size (fun k hk => by injection hk with hk; have := s.lowB; omega), s.lowS, s.lowB, s.lowN, s.ne, grow_blk s.blk hg (fun e => by injection e with e; exact blk_ne s.bg s.blk (by decide) e), Nat.le_trans s.ws hg.size, (fun k hk h1 h2 h3 => (hg.block k (Nat.lt_of_lt_of_le hk s.ws) (fun e => by injection e with e; exact h2 e)).trans (s.oth k hk h1 h2 h3)), hb, grow_blk s.nx hg (fun e => by injection e with e; exact s.ne e)⟩
theorem Se.next {W' : World} {h' : Nat → Nat} (s : Se w W0 W Sb gb gn at_ ct ao nl cl l g h) (hg : W.grownBy W' (some gn)) (hb : Blk W' gn 3 (nva h' (l.length + 1))) : Se w W0 W' Sb gb gn at_ ct ao nl cl l g h' :=
  ⟨s.bel.grown hg s.bel.size (fun k hk => by injection hk with hk; have := s.lowN; omega), s.lowS, s.lowB, s.lowN, s.ne, grow_blk s.blk hg (fun e => by injection e with e; exact blk_ne s.nx s.blk (by decide) e), Nat.le_trans s.ws hg.size, (fun k hk h1 h2 h3 => (hg.block k (Nat.lt_of_lt_of_le hk s.ws) (fun e => by injection e with e; exact h3 e)).trans (s.oth k hk h1 h2 h3)), grow_blk s.bg hg (fun e => by injection e with e; exact s.ne e.symm), hb⟩
theorem Se.setB (s : Se w W0 W Sb gb gn at_ ct ao nl cl l g h) (k v : Nat) : Se w W0 (W.setCell ⟨gb, k, none⟩ (.int .i64 (v : Int))) Sb gb gn at_ ct ao nl cl l (fun i => if i = k then v else g i) h :=
  s.begun (gb_set _ _ _ _) (by have := s.bg.set (j := k) (.int .i64 (v : Int)); rwa [nva_set] at this)
theorem Se.setN (s : Se w W0 W Sb gb gn at_ ct ao nl cl l g h) (k v : Nat) : Se w W0 (W.setCell ⟨gn, k, none⟩ (.int .i64 (v : Int))) Sb gb gn at_ ct ao nl cl l g (fun i => if i = k then v else h i) :=
  s.next (gb_set _ _ _ _) (by have := s.nx.set (j := k) (.int .i64 (v : Int)); rwa [nva_set] at this)
end

theorem info3 : (Try.prog.info? 3).map (fun i => (i.zero, i.size, i.bytes)) = some (some (.int .i64 0), 1, 8) := by kernel_rfl
theorem made_ints (n : Nat) : madeCells (Value.int .i64 0).cells n = nva (fun _ => 0) n := by
  unfold madeCells nva
  apply Array.ext'
  simp [Value.cells, Array.toList_range, Nat.mod_one]
theorem run_ints (n : Nat) (h : n ≤ 257) (W : World) : (Instr.makeSlice 23 (.int .i64 (n : Int)) (.int .i64 (n : Int))).run Try.prog W = .ok (.slice (some ⟨W.heap.size, 0, none⟩) n n) (W.alloc (.cells (nva (fun _ => 0) n) 3)) := by
  obtain ⟨i0, hi, hz0, hz1, hz2⟩ : ∃ i, Try.prog.info? 3 = some i ∧ i.zero = some (.int .i64 0) ∧ i.size = 1 ∧ i.bytes = 8 := by
    have := info3
    cases h : Try.prog.info? 3 with
    | none => rw [h] at this; cases this
    | some i => rw [h] at this; simp at this; exact ⟨i, rfl, this.1, this.2.1, this.2.2⟩
  have := run_make (P := Try.prog) W 23 3 i0 (.int .i64 0) Try.underlying23 hi hz0 .i64 .i64 n n (by omega) (by omega) (by rw [hz2]; omega) (by omega)
  rw [hz1, Int.toNat_natCast, Nat.mul_one, made_ints] at this
  exact this

set_option maxRecDepth 8000 in
set_option maxHeartbeats 4000000 in
theorem new_any (w : World) (at_ : Option Addr) (ct : Nat) (ao : Option Addr) (nl cl : Nat) (l : List Th) (hl : l.length ≤ 256) :
    Calls Try.prog 31 #[.slice at_ l.length ct, .slice ao nl cl] w fun e w' => ∃ Sb gb gn, e = .returned (.pointer (some ⟨Sb, 0, none⟩)) ∧ Se w w' w' Sb gb gn at_ ct ao nl cl l (fun _ => 0) (fun _ => 0) := by
  have h0 : (0 : Int) ≤ (l.length : Int) + 1 := by omega
  have h1 : (l.length : Int) + 1 ≤ 257 := by omega
  have hmk := run_ints (l.length + 1) (by omega)
  rw [show ((l.length + 1 : Nat) : Int) = (l.length : Int) + 1 by omega] at hmk
  generalize hNV : nva (fun _ => 0) (l.length + 1) = NV at *
  have HNV := Hid.mk' hNV
  clear hNV
  go_enter Try.func31, Try.ntmps31
  go_wp2_with fail
  go_region
  all_goals go_wp2
  all_goals go_ret
  all_goals subst HNV
  · refine ⟨w.heap.size + 1 + 1, w.heap.size, w.heap.size + 1, rfl, ((bAlloc (bAlloc (bAlloc (Below.refl _ _) _) _) _).drew), by omega, by omega, by omega, by omega, ?_, Nat.le_refl _, (fun _ _ _ _ _ => rfl), ?_, ?_⟩
    · have := Blk.new ((w.alloc (.cells (nva (fun _ => 0) (l.length + 1)) 3)).alloc (.cells (nva (fun _ => 0) (l.length + 1)) 3)) 99 #[.slice at_ l.length ct, .slice ao nl cl, .slice (some ⟨w.heap.size, 0, none⟩) (l.length + 1) (l.length + 1), .slice (some ⟨w.heap.size + 1, 0, none⟩) (l.length + 1) (l.length + 1)]
      simp only [World.size_alloc] at this
      exact this.keep (Below.refl _ _).drew
    · exact (Blk.new w 3 _).keep (((bAlloc (bAlloc (Below.refl _ _) _) _).drew))
    · have := Blk.new (w.alloc (.cells (nva (fun _ => 0) (l.length + 1)) 3)) 3 (nva (fun _ => 0) (l.length + 1))
      simp only [World.size_alloc] at this
      exact this.keep (bAlloc (Below.refl _ _) _).drew
  · refine ⟨w.heap.size + 1 + 1, w.heap.size + 1, w.heap.size, rfl, ((bAlloc (bAlloc (bAlloc (Below.refl _ _) _) _) _).drew), by omega, by omega, by omega, by omega, ?_, Nat.le_refl _, (fun _ _ _ _ _ => rfl), ?_, ?_⟩
    · have := Blk.new ((w.alloc (.cells (nva (fun _ => 0) (l.length + 1)) 3)).alloc (.cells (nva (fun _ => 0) (l.length + 1)) 3)) 99 #[.slice at_ l.length ct, .slice ao nl cl, .slice (some ⟨w.heap.size + 1, 0, none⟩) (l.length + 1) (l.length + 1), .slice (some ⟨w.heap.size, 0, none⟩) (l.length + 1) (l.length + 1)]
      simp only [World.size_alloc] at this
      exact this.keep (Below.refl _ _).drew
    · have := Blk.new (w.alloc (.cells (nva (fun _ => 0) (l.length + 1)) 3)) 3 (nva (fun _ => 0) (l.length + 1))
      simp only [World.size_alloc] at this
      exact this.keep (bAlloc (Below.refl _ _) _).drew
    · exact (Blk.new w 3 _).keep (((bAlloc (bAlloc (Below.refl _ _) _) _).drew))

theorem iw_in {line : List UInt8} {i : Int} (h0 : 0 ≤ i) (h1 : i < line.length) : iw line i = decide (kd (bn line i.toNat : Int) false = 2) := by unfold iw bn; rw [decide_eq_true ⟨h0, h1⟩]; rfl
theorem iw_out {line : List UInt8} {i : Int} (h : ¬ (0 ≤ i ∧ i < line.length)) : iw line i = false := by unfold iw; rw [decide_eq_false h]; rfl
set_option maxRecDepth 8000 in
set_option maxHeartbeats 4000000 in
theorem isWordS_any (W : World) (Sb : Nat) (ao : Option Addr) (nl cl : Nat) (line : List UInt8) (i : Int) (h0 : -1 ≤ i) (h1 : i ≤ nl) (HT : Hid (Tx W ao nl cl line)) (c1 : W.cell? ⟨Sb, 1, none⟩ = some (.slice ao nl cl)) :
    Calls Try.prog 94 #[.pointer (some ⟨Sb, 0, none⟩), .int .i64 i] W fun e W' => e = .returned (.bool (iw line i)) ∧ W' = W := by
  have hlen := HT.out.len
  have hbig := HT.out.big
  by_cases h2 : 0 ≤ i
  · by_cases h3 : i < (nl : Int)
    · obtain ⟨k, hk⟩ : ∃ k : Nat, i = (k : Int) := ⟨i.toNat, by omega⟩
      subst hk
      obtain ⟨g, o, e1, hc⟩ := HT.out.at (by omega)
      subst e1
      have cx : W.cell? ⟨g, o + k, none⟩ = some (.int .u8 (bn line k : Int)) := hc k (by omega)
      have CO := Hid.mk' (of_any (bn line k : Int) false W)
      have HI : Hid (iw line (k : Int) = decide (kd (bn line k : Int) false = 2)) := iw_in h2 (by omega)
      generalize kd (bn line k : Int) false = K at *
      generalize bn line k = x at *
      clear hc
      go_enter Try.func94, Try.ntmps94
      go_wp2_with (go_at_call 28; refine CO.out.mono ?_; rintro e w' ⟨rfl, hw⟩; subst hw)
      all_goals go_ret
      all_goals refine ⟨?_, rfl⟩
      all_goals rw [HI.out]
      all_goals simp
      all_goals rfl
    · have HI : Hid (iw line i = false) := iw_out (by omega)
      have h3' : decide (i < (nl : Int)) = false := decide_eq_false h3
      go_enter Try.func94, Try.ntmps94
      go_wp2
      go_ret
      exact ⟨by rw [HI.out]; rfl, rfl⟩
  · have HI : Hid (iw line i = false) := iw_out (by omega)
    have h2' : decide (0 ≤ i) = false := decide_eq_false h2
    go_enter Try.func94, Try.ntmps94
    go_wp2
    go_ret
    exact ⟨by rw [HI.out]; rfl, rfl⟩
end Go.Proofs.Ytaakgoojcogbcaa
