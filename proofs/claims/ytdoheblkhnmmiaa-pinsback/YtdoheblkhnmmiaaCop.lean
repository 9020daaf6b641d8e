/- The law copied. -/
import Derived.Test.YtdoheblkhnmmiaaLnt
namespace Go.Proofs.Ytdoheblkhnmmiaa
open Go.RowKit

set_option maxRecDepth 8000
/-- bytes lent: a list of their own, two bytes behind it -/
def Ln (W : World) (B g cap n : Nat) (l : List UInt8) : Prop := W.ownsRow B 5 1 (.slice (some ⟨g, 0, none⟩) (n + 2) cap) (n + 2) (bv l ++ mk2)
theorem Ln.lt {W : World} {B g cap n : Nat} {l : List UInt8} (h : Ln W B g cap n l) : B ≤ g ∧ g < W.heap.size := World.ownsRow.lt h g rfl
theorem Ln.keep {W W' : World} {B g cap n : Nat} {l : List UInt8} (h : Ln W B g cap n l) (hb : Below W.heap.size W W') : Ln W' B g cap n l := own_keep h hb
theorem Ln.low {W : World} {B B' g cap n : Nat} {l : List UInt8} (h : Ln W B g cap n l) (hb : B' ≤ B) : Ln W B' g cap n l := own_lower h hb
theorem Ln.grown {W W' : World} {B g cap n p : Nat} {l : List UInt8} (h : Ln W B g cap n l) (hg : W.grownBy W' (some p)) (hp : p < B) : Ln W' B g cap n l :=
  World.ownsRow.kept h hg (.inr (by have := h.lt; simp [Value.ownBlock]; omega))
/-- an edit and its copy -/
structure Cp1 (w W : World) (B : Nat) (e f : Er) : Prop where
  a : f.a = e.a
  o : f.o = e.o
  n : f.n = e.n
  t1 : ∃ g l, f.p1 = some ⟨g, 0, none⟩ ∧ Tx w e.p1 e.o e.c1 l ∧ Ln W B g f.c1 f.o l
  t2 : ∃ g l, f.p2 = some ⟨g, 0, none⟩ ∧ Tx w e.p2 e.n e.c2 l ∧ Ln W B g f.c2 f.n l
theorem Cp1.keep {w W W' : World} {B : Nat} {e f : Er} (h : Cp1 w W B e f) (hb : Below W.heap.size W W') : Cp1 w W' B e f := by
  obtain ⟨g1, l1, a1, b1, c1⟩ := h.t1
  obtain ⟨g2, l2, a2, b2, c2⟩ := h.t2
  exact ⟨h.a, h.o, h.n, ⟨g1, l1, a1, b1, c1.keep hb⟩, ⟨g2, l2, a2, b2, c2.keep hb⟩⟩
theorem Cp1.grown {w W W' : World} {B p : Nat} {e f : Er} (h : Cp1 w W B e f) (hg : W.grownBy W' (some p)) (hp : p < B) : Cp1 w W' B e f := by
  obtain ⟨g1, l1, a1, b1, c1⟩ := h.t1
  obtain ⟨g2, l2, a2, b2, c2⟩ := h.t2
  exact ⟨h.a, h.o, h.n, ⟨g1, l1, a1, b1, c1.grown hg hp⟩, ⟨g2, l2, a2, b2, c2.grown hg hp⟩⟩
/-- the first edits and their copies -/
def Cpd (w W : World) (B : Nat) (E F : List Er) : Prop := ∀ (k : Nat) (e f : Er), E[k]? = some e → F[k]? = some f → Cp1 w W B e f
theorem Cpd.keep {w W W' : World} {B : Nat} {E F : List Er} (h : Cpd w W B E F) (hb : Below W.heap.size W W') : Cpd w W' B E F := fun k e f h1 h2 => (h k e f h1 h2).keep hb
theorem Cpd.grown {w W W' : World} {B p : Nat} {E F : List Er} (h : Cpd w W B E F) (hg : W.grownBy W' (some p)) (hp : p < B) : Cpd w W' B E F := fun k e f h1 h2 => (h k e f h1 h2).grown hg hp
theorem Cpd.snoc {w W : World} {B : Nat} {E F : List Er} {e f : Er} (h : Cpd w W B E F) (he : E[F.length]? = some e) (h1 : Cp1 w W B e f) : Cpd w W B E (F ++ [f]) := fun k e' f' h2 h3 => by
  rcases snoc_at h3 with h3 | ⟨rfl, rfl⟩
  · exact h k e' f' h2 h3
  · rw [he] at h2; cases h2; exact h1
/-- edits as cells -/
def ecs (F : List Er) : List Value := F.flatMap fun r => r.cs.toList
theorem ecs_len (F : List Er) : (ecs F).length = F.length * 3 := by
  induction F with
  | nil => rfl
  | cons r F ih => show (r.cs.toList ++ ecs F).length = _; rw [List.length_append, ih, List.length_cons]; simp [Er.cs]; omega
theorem ecs_snoc (F : List Er) (r : Er) : ecs (F ++ [r]) = ecs F ++ r.cs.toList := by simp [ecs]
theorem ecs_at {F : List Er} {k : Nat} {r : Er} (h : F[k]? = some r) : (ecs F)[k * 3]? = some (.int .i64 r.a) ∧ (ecs F)[k * 3 + 1]? = some (.slice r.p1 r.o r.c1) ∧ (ecs F)[k * 3 + 2]? = some (.slice r.p2 r.n r.c2) := by
  induction F generalizing k with
  | nil => simp at h
  | cons x F ih =>
    cases k with
    | zero => simp at h; subst h; exact ⟨rfl, rfl, rfl⟩
    | succ k =>
      rw [List.getElem?_cons_succ] at h
      obtain ⟨h1, h2, h3⟩ := ih h
      have e : ∀ j, (ecs (x :: F))[(k + 1) * 3 + j]? = (ecs F)[k * 3 + j]? := fun j => by
        show (x.cs.toList ++ ecs F)[(k + 1) * 3 + j]? = _
        rw [List.getElem?_append_right (by simp [Er.cs]; omega)]
        congr 1; simp [Er.cs]; omega
      exact ⟨(e 0).trans h1, (e 1).trans h2, (e 2).trans h3⟩
def z3 : List Value := [.int .i64 0, .slice none 0 0, .slice none 0 0]
def zcs : Nat → List Value
  | 0 => []
  | n + 1 => z3 ++ zcs n
theorem zcs_len : ∀ n, (zcs n).length = n * 3
  | 0 => rfl
  | n + 1 => by unfold zcs; rw [List.length_append, zcs_len n]; simp [z3]; omega
theorem zcs_at : ∀ (n j : Nat), j < n * 3 → (zcs n)[j]? = z3[j % 3]?
  | 0, j, h => by omega
  | n + 1, j, h => by
    unfold zcs
    by_cases hj : j < 3
    · rw [List.getElem?_append_left (by simpa [z3] using hj), Nat.mod_eq_of_lt hj]
    · rw [List.getElem?_append_right (by simp [z3]; omega), zcs_at n _ (by simp [z3]; omega)]
      congr 1
      simp [z3]; omega
theorem info42 : (Try.prog.info? 42).map (fun i => (i.zero, i.size, i.bytes)) = some (some (.agg #[.int .i64 0, .slice none 0 0, .slice none 0 0]), 3, 56) := by kernel_rfl
theorem made_zcs (n : Nat) : madeCells (Value.agg #[.int .i64 0, .slice none 0 0, .slice none 0 0]).cells (n * 3) = (zcs n).toArray := by
  apply Array.ext'
  apply List.ext_getElem?
  intro j
  by_cases hj : j < n * 3
  · rw [List.toList_toArray, zcs_at n j hj]
    have h3 : j % 3 < 3 := Nat.mod_lt _ (by decide)
    simp [madeCells, hj, Value.cells, z3]
    rw [List.getElem?_eq_getElem (by simpa using h3)]
    rfl
  · rw [List.getElem?_eq_none (by simp [madeCells]; omega), List.getElem?_eq_none (by simp [zcs_len]; omega)]
theorem run_room (n : Nat) (hn : n ≤ 1048576) (W : World) : (Instr.makeSlice 37 (.int .i64 0) (.int .i64 ((n : Int) + 1))).run Try.prog W = .ok (.slice (some ⟨W.heap.size, 0, none⟩) 0 (n + 1)) (W.alloc (.cells (zcs (n + 1)).toArray 42)) := by
  obtain ⟨i0, hi, hz0, hz1, hz2⟩ := info_parts info42
  have := run_make (P := Try.prog) W 37 42 i0 _ Try.underlying37 hi hz0 .i64 .i64 0 ((n : Int) + 1) (by omega) (by omega) (by rw [hz2]; omega) (by omega)
  rw [hz1, show ((n : Int) + 1).toNat = n + 1 by omega, made_zcs] at this
  exact this
/-- the copies' block -/
def Crw (W : World) (g n : Nat) (F : List Er) : Prop := Blk W g 42 (ecs F ++ zcs (n + 1 - F.length)).toArray
theorem Crw.snoc {W : World} {g n : Nat} {F : List Er} (h : Crw W g n F) (hF : F.length < n + 1) (r : Er) : Crw (W.setCells g (0 + F.length * 3) r.cs.toList) g n (F ++ [r]) := by
  obtain ⟨m, hm⟩ : ∃ m, n + 1 - F.length = m + 1 := ⟨n - F.length, by omega⟩
  unfold Crw at h ⊢
  rw [hm] at h
  have h1 : Blk W g 42 (ecs F ++ z3 ++ zcs m).toArray := by rw [List.append_assoc]; exact h
  have := blk_setCells (r.cs.toList) (ecs F) z3 (zcs m) rfl h1
  rw [ecs_len] at this
  rw [Nat.zero_add, ecs_snoc, show n + 1 - (F ++ [r]).length = m by simp; omega]
  exact this
theorem Crw.room {W : World} {g n : Nat} {F : List Er} (h : Crw W g n F) (hF : F.length < n + 1) {m : Nat} (hm : m = 3) : ∀ j, j < m → (W.cell? ⟨g, 0 + F.length * 3 + j, none⟩).isSome = true ∧ W.frozen? ⟨g, 0 + F.length * 3 + j, none⟩ = false := fun j hj => by
  refine ⟨?_, Blk.frozen h _⟩
  have hl : 0 + F.length * 3 + j < (ecs F ++ zcs (n + 1 - F.length)).length := by rw [List.length_append, ecs_len, zcs_len]; omega
  rw [Blk.cell h (v := (ecs F ++ zcs (n + 1 - F.length))[0 + F.length * 3 + j]) (by rw [List.getElem?_toArray, List.getElem?_eq_getElem hl])]
  rfl
theorem Crw.edr {W : World} {g n : Nat} {F : List Er} (h : Crw W g n F) : Edr W (some ⟨g, 0, none⟩) F := fun k r hk => by
  obtain ⟨h1, h2, h3⟩ := ecs_at hk
  have hl := (List.getElem?_eq_some_iff.1 hk).1
  have e : ∀ (j : Nat) (v : Value), j < 3 → (ecs F)[k * 3 + j]? = some v → W.cell? ⟨g, 0 + k * 3 + j, none⟩ = some v := fun j v hj hv => by
    rw [Nat.zero_add]
    exact Blk.cell h (by rw [List.getElem?_toArray, List.getElem?_append_left (by rw [ecs_len]; omega)]; exact hv)
  exact ⟨g, 0, rfl, e 0 _ (by omega) h1, e 1 _ (by omega) h2, e 2 _ (by omega) h3⟩
theorem Crw.spare {W : World} {g n : Nat} {F : List Er} (h : Crw W g n F) (hF : F.length = n) : Ed3 W g (n * 3) 0 none 0 0 none 0 0 := by
  unfold Crw at h
  rw [hF, show n + 1 - n = 1 by omega] at h
  have e : ∀ (j : Nat) (v : Value), j < 3 → (zcs 1)[j]? = some v → W.cell? ⟨g, n * 3 + j, none⟩ = some v := fun j v hj hv =>
    Blk.cell h (by rw [List.getElem?_toArray, List.getElem?_append_right (by rw [ecs_len, hF]; omega), ecs_len, hF, show n * 3 + j - n * 3 = j by omega]; exact hv)
  exact ⟨e 0 _ (by omega) rfl, e 1 _ (by omega) rfl, e 2 _ (by omega) rfl⟩
theorem er_one (r : Er) : ∀ u ∈ r.cs.toList, u.oneCell' = true := by
  intro u hu
  simp [Er.cs] at hu
  rcases hu with rfl | rfl | rfl <;> rfl
/-- what copied gives -/
def CopP (n : Nat) (E : List Er) (w : World) (e : Ending) (w' : World) : Prop := ∃ g B F, e = .returned (.slice (some ⟨g, 0, none⟩) n (n + 1)) ∧ F.length = n ∧ Crw w' g n F ∧ Cpd w w' B E F ∧ Below w.heap.size w w'
set_option maxHeartbeats 8000000 in
set_option linter.unusedSimpArgs false in
theorem copied_any (ao : Option Addr) (n c : Nat) (E : List Er) (w : World) (HE : Hid (Edz w ao E)) (hn : E.length = n) (hG : gsum E ≤ 1048576) :
    Calls Try.prog 18 #[.slice ao n c] w fun e w' => CopP n E w e w' := by
  have hn2 : n ≤ 1048576 := by have := gsum_len E; omega
  have HGS := Hid.mk' hG
  have HN := Hid.mk' hn
  obtain ⟨i8, hi8, hz8, hs8, hb8⟩ := info_parts info42
  have hmk := fun W => run_room n hn2 W
  clear hn hG hz8 hb8
  go_enter Try.func18, Try.ntmps18
  go_wp2_with fail
  have B0 : Hid (Below w.heap.size w (w.alloc (.cells (zcs (n + 1)).toArray 42))) := bAlloc (Below.refl _ _) _
  have P0 : Hid (Crw (w.alloc (.cells (zcs (n + 1)).toArray 42)) w.heap.size n []) := Blk.new w 42 _
  have Z0 : Hid (w.heap.size + 1 ≤ (w.alloc (.cells (zcs (n + 1)).toArray 42)).heap.size) := by unfold Hid; simp
  have HGW : Hid (w.heap.size ≤ w.heap.size) := Nat.le_refl _
  obtain ⟨B, hB⟩ : ∃ B, B = w.heap.size + 1 := ⟨_, rfl⟩
  obtain ⟨g, hg⟩ : ∃ g, g = w.heap.size := ⟨_, rfl⟩
  have HGB0 : Hid (g < B) := by unfold Hid; omega
  have HGW : Hid (w.heap.size ≤ g) := by unfold Hid; omega
  rw [← hB] at Z0
  have P1 : Hid (Crw (w.alloc (.cells (zcs (n + 1)).toArray 42)) g n []) := by rw [hg]; exact P0.out
  rw [← hg]
  clear hmk P0 hg hB
  generalize w.alloc (.cells (zcs (n + 1)).toArray 42) = W1 at *
  go_loopg [3, 5, 12] n (fun m x3 x5 x12 wx => ∃ (k : Nat) (F : List Er), x12 = .int .i64 (k : Int) ∧ x3 = .slice (some ⟨g, 0, none⟩) k (n + 1) ∧ k + m = n ∧ Hid (F.length = k) ∧ Hid (Crw wx g n F) ∧ Hid (Cpd w wx B E F) ∧ Hid (Below w.heap.size w wx) ∧ Hid (B ≤ wx.heap.size))
  case atStart => exact ⟨0, [], rfl, rfl, by omega, rfl, P1.out, fun k e f h1 h2 => by simp at h2, B0.out, Z0.out⟩
  case round =>
    obtain ⟨k, F, rfl, rfl, hkm, HF, KP, KC, KB, KZ⟩ := hrel
    obtain ⟨go, hgo⟩ : ∃ g, g = gk - 1 := ⟨_, rfl⟩
    clear P1 B0 Z0
    by_cases hk : k < n
    · have hk' : (k : Int) < (n : Int) := by omega
      have hk0 : (0 : Int) ≤ (k : Int) := by omega
      obtain ⟨r, hr⟩ : ∃ r, E[k]? = some r := ⟨_, List.getElem?_eq_getElem (by have := HN.out; omega)⟩
      obtain ⟨g0, o0, rfl, h3⟩ := HE.out.row.ed3 hr
      obtain ⟨old, new, hT1, hT2, -, -⟩ := HE.out.txs k r hr
      have hgm := gsum_mem hr
      have h4 := h3.keep KB.out
      have HR := Hid.mk' hr
      obtain ⟨ra, rp1, ro, rc1, rp2, rn, rc2⟩ := r
      dsimp only at h4 hT1 hT2 hgm
      have TW1 := Hid.mk' hT1
      have TW2 := Hid.mk' hT2
      have CL1 := Hid.mk' (fun W (h : Tx W rp1 ro rc1 old) => lent_any rp1 ro rc1 old W (by have := HGS.out; omega) h)
      have CL2 := Hid.mk' (fun W (h : Tx W rp2 rn rc2 new) => lent_any rp2 rn rc2 new W (by have := HGS.out; omega) h)
      have t0 := h4.e0
      have t1 := h4.e1
      have t2 := h4.e2
      clear hr h3 h4 hgm hT1 hT2
      obtain ⟨w1, hw1⟩ : ∃ w1, w1 = wr.alloc (.cells #[.int .i64 ra, .slice rp1 ro rc1, .slice rp2 rn rc2] 42) := ⟨_, rfl⟩
      have B1 : Hid (Below wr.heap.size wr w1) := by unfold Hid; rw [hw1]; exact bAlloc (Below.refl _ _) _
      have Y0 : Hid (Blk w1 wr.heap.size 42 #[.int .i64 ra, .slice rp1 ro rc1, .slice rp2 rn rc2]) := by unfold Hid; rw [hw1]; exact Blk.new _ _ _
      go_upto_region 5 with fail
      rw [← hw1]
      clear hw1 t0 t1 t2
      obtain ⟨q, hq⟩ : ∃ q, q = wr.heap.size := ⟨_, rfl⟩
      have HGB : Hid (g < B ∧ B ≤ q) := ⟨HGB0.out, by rw [hq]; exact KZ.out⟩
      have YQ : Hid (Blk w1 q 42 #[.int .i64 ra, .slice rp1 ro rc1, .slice rp2 rn rc2]) := by rw [hq]; exact Y0.out
      have hb9 : Below wr.heap.size wr w1.drew := B1.out.drew
      have KD : Hid (Blk w1.drew q 42 #[.int .i64 ra, .slice rp1 ro rc1, .slice rp2 rn rc2]) := YQ.out
      have PD : Hid (Crw w1.drew g n F) := Blk.keep KP.out hb9
      have CD := Hid.mk' (KC.out.keep hb9)
      have T1D : Hid (Tx w1.drew rp1 ro rc1 old) := TW1.out.keep (bT KB.out hb9)
      have T2D : Hid (Tx w1.drew rp2 rn rc2 new) := TW2.out.keep (bT KB.out hb9)
      have LD := Hid.mk' (bT KB.out hb9)
      have ZD : Hid (B ≤ w1.drew.heap.size) := Nat.le_trans KZ.out hb9.size
      rw [← hq]
      clear B1 Y0 YQ hb9 KP KC KB KZ hq
      refine wp_region_held (S := fun w' => Blk w' q 42 #[.int .i64 ra, .slice rp1 ro rc1, .slice rp2 rn rc2]) (by kernel_rfl) ?_
      change wpAnyH _ _ _ _ _ _ _ _ (World.drew _)
      generalize w1.drew = V3 at *
      refine wpAnyH_take (i := 0) (v := .slice (some ⟨g, 0, none⟩) k (n + 1)) rfl (by kernel_rfl) (by kernel_rfl) (by kernel_rfl) (fun _ _ _ h => h) (Yields.yieldsIf (Or.inl ⟨by rfl, fun w => by go_simp⟩)) KD.out ?_
      try simp only [Act.put, List.getElem_toArray, List.getElem_cons_zero, List.getElem_cons_succ, List.setIfInBounds_toArray, List.set_cons_zero, List.set_cons_succ]
      refine wpAnyH_take (i := 1) (v := .pointer (some ⟨q, 0, none⟩)) rfl (by kernel_rfl) (by kernel_rfl) (by kernel_rfl) (fun _ _ _ h => h) (Yields.yieldsIf (Or.inl ⟨by rfl, fun w => by go_simp⟩)) KD.out ?_
      try simp only [Act.put, List.getElem_toArray, List.getElem_cons_zero, List.getElem_cons_succ, List.setIfInBounds_toArray, List.set_cons_zero, List.set_cons_succ]
      refine wpAnyH_take (i := 2) (v := .int .i64 ra) rfl (by kernel_rfl) (by kernel_rfl) (by kernel_rfl) (fun _ _ _ h => h) (Or.inl ⟨by rfl, fun w9 h9 => by have h5 := h9.cell (j := 0) rfl; have h6 := h9.cell (j := 1) rfl; have h7 := h9.cell (j := 2) rfl; go_simp⟩) KD.out ?_
      try simp only [Act.put, List.getElem_toArray, List.getElem_cons_zero, List.getElem_cons_succ, List.setIfInBounds_toArray, List.set_cons_zero, List.set_cons_succ]
      refine wpAnyH_take (i := 3) (v := .pointer (some ⟨q, 1, none⟩)) rfl (by kernel_rfl) (by kernel_rfl) (by kernel_rfl) (fun _ _ _ h => h) (Yields.yieldsIf (Or.inl ⟨by rfl, fun w => by go_simp⟩)) KD.out ?_
      try simp only [Act.put, List.getElem_toArray, List.getElem_cons_zero, List.getElem_cons_succ, List.setIfInBounds_toArray, List.set_cons_zero, List.set_cons_succ]
      refine wpAnyH_take (i := 4) (v := .slice rp1 ro rc1) rfl (by kernel_rfl) (by kernel_rfl) (by kernel_rfl) (fun _ _ _ h => h) (Or.inl ⟨by rfl, fun w9 h9 => by have h5 := h9.cell (j := 0) rfl; have h6 := h9.cell (j := 1) rfl; have h7 := h9.cell (j := 2) rfl; go_simp⟩) KD.out ?_
      try simp only [Act.put, List.getElem_toArray, List.getElem_cons_zero, List.getElem_cons_succ, List.setIfInBounds_toArray, List.set_cons_zero, List.set_cons_succ]
      refine wpAnyH_take (i := 6) (v := .pointer (some ⟨q, 2, none⟩)) rfl (by kernel_rfl) (by kernel_rfl) (by kernel_rfl) (fun _ _ _ h => h) (Yields.yieldsIf (Or.inl ⟨by rfl, fun w => by go_simp⟩)) KD.out ?_
      try simp only [Act.put, List.getElem_toArray, List.getElem_cons_zero, List.getElem_cons_succ, List.setIfInBounds_toArray, List.set_cons_zero, List.set_cons_succ]
      refine wpAnyH_take (i := 7) (v := .slice rp2 rn rc2) rfl (by kernel_rfl) (by kernel_rfl) (by kernel_rfl) (fun _ _ _ h => h) (Or.inl ⟨by rfl, fun w9 h9 => by have h5 := h9.cell (j := 0) rfl; have h6 := h9.cell (j := 1) rfl; have h7 := h9.cell (j := 2) rfl; go_simp⟩) KD.out ?_
      try simp only [Act.put, List.getElem_toArray, List.getElem_cons_zero, List.getElem_cons_succ, List.setIfInBounds_toArray, List.set_cons_zero, List.set_cons_succ]
      refine wpAnyH_all (rs := [5]) (by kernel_rfl) (by simp) (AllH.cons rfl (fun K hK => ?_) AllH.nil)
      go_simp
      refine (CL1.out V3 T1D.out).mono ?_
      rintro e w4 ⟨g1, k1, rfl, hO9, hb9⟩
      have O14 : Hid (Ln w4 B g1 k1 ro old) := Ln.low (B := V3.heap.size) hO9 ZD.out
      have K4 := Hid.mk' (KD.out.keep hb9)
      have P4 := Hid.mk' (show Crw _ g n F from Blk.keep PD.out hb9)
      have C4 := Hid.mk' (CD.out.keep hb9)
      have T24 := Hid.mk' (T2D.out.keep hb9)
      have L4 := Hid.mk' (bT LD.out hb9)
      have Z4 : Hid (B ≤ w4.heap.size) := Nat.le_trans ZD.out hb9.size
      clear hO9 hb9
      dsimp only
      refine hK _ _ ⟨K4.out, ?_⟩
      clear hK K
      try simp only [Act.put, List.getElem_toArray, List.getElem_cons_zero, List.getElem_cons_succ, List.setIfInBounds_toArray, List.set_cons_zero, List.set_cons_succ]
      refine wpAnyH_all (rs := [8]) (by kernel_rfl) (by simp) (AllH.cons rfl (fun K hK => ?_) AllH.nil)
      go_simp
      refine (CL2.out w4 T24.out).mono ?_
      rintro e w5 ⟨g2, k2, rfl, hO9, hb9⟩
      have O25 : Hid (Ln w5 B g2 k2 rn new) := Ln.low (B := w4.heap.size) hO9 Z4.out
      have K5 := Hid.mk' (K4.out.keep hb9)
      have P5 := Hid.mk' (show Crw _ g n F from Blk.keep P4.out hb9)
      have C5 := Hid.mk' (C4.out.keep hb9)
      have O15 := Hid.mk' (O14.out.keep hb9)
      have L5 := Hid.mk' (bT L4.out hb9)
      have Z5 : Hid (B ≤ w5.heap.size) := Nat.le_trans Z4.out hb9.size
      clear hO9 hb9
      dsimp only
      refine hK _ _ ⟨K5.out, ?_⟩
      clear hK K
      try simp only [Act.put, List.getElem_toArray, List.getElem_cons_zero, List.getElem_cons_succ, List.setIfInBounds_toArray, List.set_cons_zero, List.set_cons_succ]
      refine wpAnyH_take (i := 9) (v := .agg #[.int .i64 ra, .slice (some ⟨g1, 0, none⟩) ro k1, .slice (some ⟨g2, 0, none⟩) rn k2]) rfl (by kernel_rfl) (by kernel_rfl) (by kernel_rfl) (fun _ _ _ h => h) (Yields.yieldsIf (Or.inl ⟨by rfl, fun w => by go_simp⟩)) K5.out ?_
      try simp only [Act.put, List.getElem_toArray, List.getElem_cons_zero, List.getElem_cons_succ, List.setIfInBounds_toArray, List.set_cons_zero, List.set_cons_succ]
      refine wpAnyH_all (rs := [10]) (by kernel_rfl) (by simp) (AllH.cons rfl (fun K hK => ?_) AllH.nil)
      go_simp
      have hb9 := bAlloc (Below.refl _ w5) (.cells #[.int .i64 ra, .slice (some ⟨g1, 0, none⟩) ro k1, .slice (some ⟨g2, 0, none⟩) rn k2] 42)
      have N6 := Hid.mk' (Blk.new w5 42 #[.int .i64 ra, .slice (some ⟨g1, 0, none⟩) ro k1, .slice (some ⟨g2, 0, none⟩) rn k2])
      have K6 := Hid.mk' (K5.out.keep hb9)
      have P6 := Hid.mk' (show Crw _ g n F from Blk.keep P5.out hb9)
      have C6 := Hid.mk' (C5.out.keep hb9)
      have O16 := Hid.mk' (O15.out.keep hb9)
      have O26 := Hid.mk' (O25.out.keep hb9)
      have L6 := Hid.mk' (bT L5.out hb9)
      clear hb9
      generalize (w5.alloc (.cells #[.int .i64 ra, .slice (some ⟨g1, 0, none⟩) ro k1, .slice (some ⟨g2, 0, none⟩) rn k2] 42)) = w6 at *
      generalize w5.heap.size = nb at *
      refine hK _ _ ⟨K6.out, ?_⟩
      clear hK K
      try simp only [Act.put, List.getElem_toArray, List.getElem_cons_zero, List.getElem_cons_succ, List.setIfInBounds_toArray, List.set_cons_zero, List.set_cons_succ]
      refine wpAnyH_all (rs := [11]) (by kernel_rfl) (by simp) (AllH.cons rfl (fun K hK => ?_) AllH.nil)
      refine step_append_room rfl (.tmp 16) (.tmp 26) 37 rfl 42 i8 3 Try.underlying37 hi8 hs8 g 0 k (n + 1) rfl ⟨nb, 0, none⟩ 1 1 (Er.cs ⟨ra, some ⟨g1, 0, none⟩, ro, k1, some ⟨g2, 0, none⟩, rn, k2⟩).toList rfl rfl (fun j u hu => by rw [add_none, Nat.zero_add]; exact N6.out.cell (by rw [← Array.getElem?_toList]; exact hu)) (er_one _) (by omega) (by have := P6.out.room (by have := HF.out; omega) rfl; rw [HF.out] at this; exact this) ?_
      have hg9 := grown_setCells (B := g) (Er.cs ⟨ra, some ⟨g1, 0, none⟩, ro, k1, some ⟨g2, 0, none⟩, rn, k2⟩).toList (0 + k * 3) w6
      have P7 : Hid (Crw (w6.setCells g (0 + k * 3) (Er.cs ⟨ra, some ⟨g1, 0, none⟩, ro, k1, some ⟨g2, 0, none⟩, rn, k2⟩).toList) g n (F ++ [⟨ra, some ⟨g1, 0, none⟩, ro, k1, some ⟨g2, 0, none⟩, rn, k2⟩])) := by have := P6.out.snoc (by have := HF.out; omega) ⟨ra, some ⟨g1, 0, none⟩, ro, k1, some ⟨g2, 0, none⟩, rn, k2⟩; rw [HF.out] at this; exact this
      have K7 := Hid.mk' (K6.out.grown hg9 (by have := HGB.out; simp; omega))
      have C7 := Hid.mk' ((C6.out.grown hg9 HGB.out.1).snoc (e := ⟨ra, rp1, ro, rc1, rp2, rn, rc2⟩) (f := ⟨ra, some ⟨g1, 0, none⟩, ro, k1, some ⟨g2, 0, none⟩, rn, k2⟩) (by rw [HF.out]; exact HR.out) ⟨rfl, rfl, rfl, ⟨g1, old, rfl, TW1.out, O16.out.grown hg9 HGB.out.1⟩, ⟨g2, new, rfl, TW2.out, O26.out.grown hg9 HGB.out.1⟩⟩)
      have L7 := Hid.mk' (below_setCells (B := g) HGW.out (Er.cs ⟨ra, some ⟨g1, 0, none⟩, ro, k1, some ⟨g2, 0, none⟩, rn, k2⟩).toList (0 + k * 3) L6.out)
      skip
      clear hg9
      generalize w6.setCells g (0 + k * 3) (Er.cs ⟨ra, some ⟨g1, 0, none⟩, ro, k1, some ⟨g2, 0, none⟩, rn, k2⟩).toList = w7 at *
      refine hK _ _ ⟨K7.out, ?_⟩
      clear hK K
      try simp only [Act.put, List.getElem_toArray, List.getElem_cons_zero, List.getElem_cons_succ, List.setIfInBounds_toArray, List.set_cons_zero, List.set_cons_succ]
      refine wpAnyH_take (i := 12) (v := .slice (some ⟨g, 0, none⟩) (k + 1) (n + 1)) rfl (by kernel_rfl) (by kernel_rfl) (by kernel_rfl) (fun _ _ _ h => h) (Yields.yieldsIf (Or.inl ⟨by rfl, fun w => by go_simp⟩)) K7.out ?_
      try simp only [Act.put, List.getElem_toArray, List.getElem_cons_zero, List.getElem_cons_succ, List.setIfInBounds_toArray, List.set_cons_zero, List.set_cons_succ]
      refine wpAnyH_done (by kernel_rfl) ?_ _
      have ZB : Hid (B ≤ w7.heap.size) := by have := K7.out.lt; have h2 := HGB.out; unfold Hid; omega
      go_wp2
      go_roundg go
      case measure => omega
      case rel => exact ⟨k + 1, _, by go_num, by go_num, by omega, by rw [List.length_append, HF.out]; rfl, P7.out, C7.out, L7.out, ZB.out⟩
    · have hk' : ¬ (k : Int) < (n : Int) := by omega
      obtain rfl : k = n := by omega
      go_wp2
      go_ret
      exact ⟨_, B, F, rfl, HF.out, KP.out, KC.out, KB.out⟩
end Go.Proofs.Ytdoheblkhnmmiaa
