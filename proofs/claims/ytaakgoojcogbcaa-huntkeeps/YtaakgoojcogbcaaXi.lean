/- hunt's laws: compiled. -/
import Derived.Test.YtaakgoojcogbcaaXh
import Derived.Test.YtaakgoojcogbcaaZTha
import Derived.Test.YtaakgoojcogbcaaXg
namespace Go.Proofs.Ytaakgoojcogbcaa
open Go.RowKit
/-- a pattern that compiles -/
def gd (p : List UInt8) : Prop := p.length ≤ 256 ∧ (cmp p).1 = -1
set_option maxRecDepth 8000 in
set_option maxHeartbeats 4000000 in
theorem compiles_any (w : World) (ao : Option Addr) (n c : Nat) (p : List UInt8) (HT : Hid (Tx w ao n c p)) :
    Calls Try.prog 21 #[.slice ao n c] w fun e w' => Below w.heap.size w w' ∧ ∃ r : Int, e = .returned (.int .i64 r) ∧ (r = 0 ↔ gd p) := by
  have C := Hid.mk' (rcompile_any w ao n c p HT)
  go_enter Try.func21, Try.ntmps21
  go_wp2_with fail
  refine C.out.mono ?_
  rintro e w1 ⟨hb, a, b, rfl, h⟩
  have HH : Hid (b = 0 ↔ gd p) := by
    unfold Hid gd
    rcases h with ⟨h1, _, h3⟩ | ⟨h1, h2, _, h3⟩ | ⟨h1, h2, _, h3⟩
    · exact ⟨fun h => by omega, fun h => by omega⟩
    · exact ⟨fun h => by omega, fun h => absurd h.2 h2⟩
    · exact ⟨fun _ => ⟨h1, h2⟩, fun _ => h3⟩
  clear h
  go_wp2
  go_ret
  exact ⟨hb, b, rfl, HH.out⟩
/-- what compiled answers -/
def CpP (p : List UInt8) (w : World) (e : Ending) (w' : World) : Prop :=
  Below w.heap.size w w' ∧ ((gd p ∧ (cmp p).2.length ≤ 256 ∧ ∃ P, e = .returned (.tuple #[.pointer (some ⟨P, 0, none⟩), .bool true]) ∧ Pat w.heap.size w' P (cmp p).2) ∨ (¬ gd p ∧ e = .returned (.tuple #[.pointer none, .bool false])))
set_option maxRecDepth 8000 in
set_option maxHeartbeats 4000000 in
theorem compiled_any (w : World) (v0 : Value) (ap : Option Addr) (np cp_ : Nat) (k C : Int) (b : Bool) (p : List UInt8) (HT : Hid (Tx w ap np cp_ p)) :
    Calls Try.prog 20 #[.agg #[v0, .slice ap np cp_, .int .i64 k, .int .i64 C, .bool b]] w fun e w' => CpP p w e w' := by
  have U1 := Hid.mk' (bAlloc (Below.refl _ w) (.cells #[v0, .slice ap np cp_, .int .i64 k, .int .i64 C, .bool b] 40))
  have K1 := Hid.mk' (Blk.new w 40 #[v0, .slice ap np cp_, .int .i64 k, .int .i64 C, .bool b])
  have C1 := Hid.mk' (compile_any ap np cp_ p _ (HT.out.keep U1.out))
  go_enter Try.func20, Try.ntmps20
  go_wp2_with fail
  refine C1.out.mono ?_
  intro e w2 h2
  have hb2 := h2.1
  have U2 := Hid.mk' (bT U1.out hb2)
  have K2 := Hid.mk' (K1.out.keep hb2)
  have c1 : w2.cell? ⟨w.heap.size, 1, none⟩ = some (.slice ap np cp_) := K2.out.cell (j := 1) rfl
  by_cases hg : gd p
  · have HLn : Hid ((cmp p).2.length ≤ 256) := by
      obtain ⟨_, h | h | h⟩ := h2
      · have := hg.1; omega
      · exact absurd hg.2 h.2.1
      · have := h.2.2.1; have := hg.1; unfold Hid; omega
    obtain ⟨P, rfl, hP, _⟩ := h2.sound hg.1 hg.2
    have HP := Hid.mk' hP
    have HG := Hid.mk' hg
    clear hb2 h2 hP hg C1
    have C3 := Hid.mk' (compiles_any w2 ap np cp_ p (HT.out.keep U2.out))
    go_wp2_with fail
    refine C3.out.mono ?_
    rintro e w3 ⟨hb3, r, rfl, hr⟩
    have hr0 : r = 0 := hr.2 HG.out
    subst hr0
    go_wp2
    go_ret2
    refine ⟨bT U2.out hb3, .inl ⟨HG.out, HLn.out, P, rfl, ?_⟩⟩
    have := HP.out.keep hb3
    obtain ⟨q1, tv, q2, q3⟩ := this
    exact ⟨Nat.le_trans U1.out.size q1, tv, q2, own_lower q3 U1.out.size⟩
  · have HG := Hid.mk' hg
    have he : ∃ x1 x2 : Int, e = .returned (.tuple #[.pointer none, .int .i64 x1, .int .i64 x2]) ∧ x2 ≠ 0 := by
      obtain ⟨_, h | h | h⟩ := h2
      · exact ⟨0, 1, h.2, by decide⟩
      · exact ⟨_, 110, h.2.2, by decide⟩
      · exact absurd ⟨h.1, h.2.1⟩ hg
    obtain ⟨x1, x2, rfl, hx2⟩ := he
    have hx2' : (x2 == 0) = false := by simpa using hx2
    clear hb2 h2 hg C1 hx2
    go_wp2
    go_ret2
    exact ⟨U2.out, .inr ⟨HG.out, rfl⟩⟩
end Go.Proofs.Ytaakgoojcogbcaa
/- Around and back (pure). -/
namespace Go.Proofs.Ytaakgoojcogbcaa
open Go.RowKit
section
variable {H : List Nat}
theorem wy_around (hr : Ris H) (h0 : 0 < H.length) (b : Bool) (c k : Nat) : itr (wy b H) (c + 1 + H.length) k = itr (wy b H) (c + 1) k := by
  unfold wy
  cases b with
  | false =>
    rw [if_neg (by decide), show c + 1 + H.length = (c + H.length) + 1 by omega, go_fwd hr h0, go_fwd hr h0, ← Nat.add_assoc, Nat.add_mod_right]
  | true =>
    rw [if_pos rfl, show c + 1 + H.length = (c + H.length) + 1 by omega, go_bwd hr h0, go_bwd hr h0]
    rw [show c + H.length + 1 = (c + 1) + H.length by omega, Nat.add_mul, ← Nat.add_assoc, Nat.add_mul_mod_self_left]
theorem getD_inj (hr : Ris H) {i j : Nat} (hi : i < H.length) (hj : j < H.length) (h : H.getD i 0 = H.getD j 0) : i = j := by
  rw [getD_at hi, getD_at hj] at h
  rcases Nat.lt_trichotomy i j with g | g | g
  · have := (ris_lt hr hi hj).2 g; omega
  · exact g
  · have := (ris_lt hr hj hi).2 g; omega
theorem wy_back (hr : Ris H) (h0 : 0 < H.length) (b : Bool) (c i : Nat) : itr (wy (!b) H) c (itr (wy b H) c (H.getD (i % H.length) 0)) = H.getD (i % H.length) 0 := by
  have e1 : (c + c * (H.length - 1)) = c * H.length := by
    cases h : H.length with
    | zero => omega
    | succ m => rw [Nat.mul_succ]; simp; omega
  unfold wy
  cases b with
  | false =>
    show itr (bwd H) c (itr (fwd H) c _) = _
    rw [itr_fwd hr h0, itr_bwd hr h0, Nat.add_assoc, e1, Nat.add_mul_mod_self_right]
  | true =>
    show itr (fwd H) c (itr (bwd H) c _) = _
    rw [itr_bwd hr h0, itr_fwd hr h0, Nat.add_assoc, Nat.add_comm (c * _) c, e1, Nat.add_mul_mod_self_right]
theorem fwd_round (hr : Ris H) (h0 : 0 < H.length) (i : Nat) : itr (fwd H) H.length (H.getD (i % H.length) 0) = H.getD (i % H.length) 0 := by
  rw [itr_fwd hr h0, Nat.add_mod_right]
theorem fwd_not (hr : Ris H) (h0 : 0 < H.length) {i j : Nat} (hj0 : 0 < j) (hj : j < H.length) : itr (fwd H) j (H.getD (i % H.length) 0) ≠ H.getD (i % H.length) 0 := by
  rw [itr_fwd hr h0]
  intro h
  have h1 := getD_inj hr (Nat.mod_lt _ h0) (Nat.mod_lt _ h0) h
  have h2 : (i + j) % H.length = ((i % H.length) + j) % H.length := by rw [Nat.mod_add_mod]
  have h3 := Nat.mod_lt i h0
  rw [h2] at h1
  rcases Nat.lt_or_ge (i % H.length + j) H.length with g | g
  · rw [Nat.mod_eq_of_lt g] at h1; omega
  · rw [Nat.mod_eq_sub_mod g, Nat.mod_eq_of_lt (by omega)] at h1; omega
/-- wherever one looks from, it is a hit -/
theorem wy_hit (b : Bool) (k : Nat) : ∃ i, wy b H k = H.getD (i % H.length) 0 := by
  unfold wy
  cases b with
  | false => exact ⟨hUp H k, rfl⟩
  | true => exact ⟨hDn H k + (H.length - 1), rfl⟩
theorem itr_hit (b : Bool) (c k : Nat) : ∃ i, itr (wy b H) (c + 1) k = H.getD (i % H.length) 0 := by
  rw [itr_succ]; exact wy_hit b _
end
theorem hs_len (l : List Th) (t : List UInt8) : (hs l t).length ≤ t.length + 1 := by
  unfold hs
  have := List.length_filter_le (fun h => (List.range (t.length + 1)).any fun p => mp l t p && (rs t p == h)) (List.range (t.length + 1))
  rw [List.length_range] at this
  exact this
theorem wy_len (b : Bool) (l : List Th) (t : List UInt8) (k : Nat) : wy b (hs l t) k ≤ t.length := by
  unfold wy
  cases b with
  | false => exact fwd_len l t k
  | true => exact bwd_len l t k
theorem wy_itr_len (b : Bool) (l : List Th) (t : List UInt8) (c k : Nat) : itr (wy b (hs l t)) (c + 1) k ≤ t.length := itr_len (wy_len b l t) c k
section
variable {l : List Th} {t : List UInt8} {k C : Int} {b : Bool}
theorem nx_bad (h : ¬ (0 ≤ k ∧ k ≤ t.length ∧ 0 ≤ C ∧ C ≤ 9999)) : nxE l t k C b = tg 0 0 0 2 := by unfold nxE okA; rw [decide_eq_false h]; rfl
theorem nx_none (h : 0 ≤ k ∧ k ≤ t.length ∧ 0 ≤ C ∧ C ≤ 9999) (h2 : okh (hs l t) = false) : nxE l t k C b = tg 0 0 0 120 := by unfold nxE okA; rw [decide_eq_true h, h2]; rfl
theorem nx_yes (h : 0 ≤ k ∧ k ≤ t.length ∧ 0 ≤ C ∧ C ≤ 9999) (h2 : okh (hs l t) = true) : nxE l t k C b = tg k (itr (wy b (hs l t)) (max C 1).toNat k.toNat : Nat) 1 0 := by unfold nxE okA; rw [decide_eq_true h, h2]; rfl
theorem okh_pos (h : okh (hs l t) = true) : 0 < (hs l t).length := by unfold okh at h; simpa using h
end
/-- with a natural place and a count of one or more -/
theorem nx_at {l : List Th} {t : List UInt8} {k C : Nat} {b : Bool} (h : k ≤ t.length) (hC : C + 1 ≤ 9999) (h2 : okh (hs l t) = true) : nxE l t (k : Int) ((C + 1 : Nat) : Int) b = tg (k : Int) (itr (wy b (hs l t)) (C + 1) k : Nat) 1 0 := by
  rw [nx_yes (by omega) h2, show (max ((C + 1 : Nat) : Int) 1).toNat = C + 1 by omega, Int.toNat_natCast]
end Go.Proofs.Ytaakgoojcogbcaa
/- hunt's laws: what stays in memory. -/
namespace Go.Proofs.Ytaakgoojcogbcaa
open Go.RowKit
/-- a law's call: what was handed in, its box, its pattern -/
structure Lw (w W : World) (sb base P : Nat) (ao : Option Addr) (n c : Nat) (ap : Option Addr) (np cp_ : Nat) (k C : Int) (b : Bool) (t : List UInt8) (l : List Th) : Prop where
  bel : Below w.heap.size w W
  low : w.heap.size ≤ sb
  blk : Blk W sb 40 #[.slice ao n c, .slice ap np cp_, .int .i64 k, .int .i64 C, .bool b]
  pat : Pat base W P l
  tx : Tx W ao n c t
section
variable {w W W' : World} {sb base P : Nat} {ao : Option Addr} {n c : Nat} {ap : Option Addr} {np cp_ : Nat} {k C : Int} {b : Bool} {t : List UInt8} {l : List Th}
theorem Lw.keep (h : Lw w W sb base P ao n c ap np cp_ k C b t l) (hb : Below W.heap.size W W') : Lw w W' sb base P ao n c ap np cp_ k C b t l :=
  ⟨bT h.bel hb, h.low, h.blk.keep hb, h.pat.keep hb, h.tx.keep hb⟩
theorem Lw.c0 (h : Lw w W sb base P ao n c ap np cp_ k C b t l) : W.cell? ⟨sb, 0, none⟩ = some (.slice ao n c) := h.blk.cell (j := 0) rfl
theorem Lw.c1 (h : Lw w W sb base P ao n c ap np cp_ k C b t l) : W.cell? ⟨sb, 1, none⟩ = some (.slice ap np cp_) := h.blk.cell (j := 1) rfl
theorem Lw.c2 (h : Lw w W sb base P ao n c ap np cp_ k C b t l) : W.cell? ⟨sb, 2, none⟩ = some (.int .i64 k) := h.blk.cell (j := 2) rfl
theorem Lw.c3 (h : Lw w W sb base P ao n c ap np cp_ k C b t l) : W.cell? ⟨sb, 3, none⟩ = some (.int .i64 C) := h.blk.cell (j := 3) rfl
theorem Lw.c4 (h : Lw w W sb base P ao n c ap np cp_ k C b t l) : W.cell? ⟨sb, 4, none⟩ = some (.bool b) := h.blk.cell (j := 4) rfl
end
theorem tg_def (a b k e : Int) : tg a b k e = .returned (.tuple #[.agg #[.int .i64 a, .int .i64 b, .int .i64 k], .int .i64 e]) := rfl
end Go.Proofs.Ytaakgoojcogbcaa
