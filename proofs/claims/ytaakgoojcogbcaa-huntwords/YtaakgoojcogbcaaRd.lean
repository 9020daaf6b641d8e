/- A reader in memory; take, last, item. -/
import Derived.Test.YtaakgoojcogbcaaWrd
import Derived.Test.YtaakgoojcogbcaaRun
import Derived.Test.YtaakgoojcogbcaaLent
namespace Go.Proofs.Ytaakgoojcogbcaa
open Go.RowKit
theorem keepC {w w' : World} {a : Addr} {v : Value} (hb : Below w.heap.size w w') (h : w.cell? a = some v) : w'.cell? a = some v := by
  rw [hb.cell (lt_of_cell h)]; exact h
theorem bDrewN (W : World) : ∀ n, Below W.heap.size W (W.drewN n) := fun n => by
  induction n with
  | zero => exact Below.refl _ _
  | succ n ih => exact ih.drew
/-- a thing as the program holds it -/
def env (t : Th) : Value :=
  if t.k = 0 then .iface 96 (.agg (wv t.s)) else if t.k = 1 then .iface 122 (.agg (wv t.s)) else if t.k = 2 then .iface 89 (.agg #[]) else if t.k = 3 then .iface 90 (.agg #[]) else if t.k = 4 then .iface 123 (.agg #[]) else .iface 124 (.agg #[])
theorem env_one (t : Th) : (env t).oneCell' = true := by
  unfold env; repeat (split; · rfl)
  rfl
theorem env_iface (t : Th) : ∃ tt tx, env t = .iface tt tx := by
  unfold env; repeat (split; · exact ⟨_, _, rfl⟩)
  exact ⟨_, _, rfl⟩
def ev (l : List Th) : List Value := l.map env
theorem ev_length (l : List Th) : (ev l).length = l.length := by simp [ev]
theorem ev_at (l : List Th) {j : Nat} (h : j < l.length) : (ev l)[j]? = some (env (th l j)) := by simp [ev, th, h]
theorem ev_oneCell (l : List Th) : ∀ u ∈ ev l, u.oneCell' = true := by
  intro u hu; obtain ⟨t, _, rfl⟩ := List.mem_map.1 hu; exact env_one t
theorem info89 : (Try.prog.info? 120).map (fun i => (i.zero, i.size, i.bytes)) = some (some .nilIface, 1, 16) := by kernel_rfl

theorem grow_blk {W W' : World} {row : Option Nat} {B e : Nat} {cs : Array Value} (h : Blk W B e cs) (hg : W.grownBy W' row) (hne : row ≠ some B) : Blk W' B e cs := by
  unfold Blk
  rw [hg.block B h.lt (fun hh => hne hh.symm)]; exact h
theorem own_setCell {W : World} {base e size n B j : Nat} {v u : Value} {xs : List Value} (h : W.ownsRow base e size v n xs) (hne : v.ownBlock ≠ some B) : (W.setCell ⟨B, j, none⟩ u).ownsRow base e size v n xs := by
  refine ⟨h.1, ?_⟩
  rcases h.2 with h2 | ⟨g, cap, cur, e1, h3, h4, h5⟩
  · exact .inl h2
  · refine .inr ⟨g, cap, cur, e1, h3, ?_, h5⟩
    rw [heap_setCell_other _ _ _ _ (fun hh => hne (by rw [e1]; exact congrArg some hh))]; exact h4
theorem own_far {W : World} {base e size n B e' : Nat} {v : Value} {xs : List Value} {cs : Array Value} (h : W.ownsRow base e size v n xs) (hB : Blk W B e' cs) (hne : e ≠ e') : v.ownBlock ≠ some B := by
  intro hh
  rcases h.2 with ⟨e1, _⟩ | ⟨g, cap, cur, e1, h3, h4, h5⟩
  · rw [e1] at hh; cases hh
  · rw [e1] at hh
    have hg : g = B := by simpa [Value.ownBlock] using hh
    subst hg
    unfold Blk at hB
    rw [hB] at h4
    injection h4 with h4
    injection h4 with _ h6 _
    exact hne h6.symm

/-- A reader: its block B, its text, its place, its things. -/
structure Rd (w W : World) (B : Nat) (tv : Value) (ao : Option Addr) (n c a : Nat) (l : List Th) : Prop where
  bel : Below w.heap.size w W
  low : w.heap.size ≤ B
  blk : Blk W B 64 #[.slice ao n c, .int .i64 (a : Int), tv]
  own : W.ownsRow w.heap.size 120 1 tv l.length (ev l)
theorem Rd.keep {w W W' : World} {B : Nat} {tv : Value} {ao : Option Addr} {n c a : Nat} {l : List Th} (h : Rd w W B tv ao n c a l) (hb : Below W.heap.size W W') : Rd w W' B tv ao n c a l :=
  ⟨h.bel.trans (hb.mono h.bel.size), h.low, h.blk.keep hb, own_keep h.own hb⟩

set_option maxRecDepth 4000 in
set_option maxHeartbeats 4000000 in
theorem take_any (w W : World) (B : Nat) (tv : Value) (ao : Option Addr) (n c a sz : Nat) (l : List Th) (t : Th) (hl : l.length ≤ 256) (ha : a ≤ 256) (hs : sz ≤ 257) (H : Hid (Rd w W B tv ao n c a l)) :
    Calls Try.prog 49 #[.pointer (some ⟨B, 0, none⟩), env t, .int .i64 (sz : Int)] W fun e W' => e = .returned (.tuple #[]) ∧ ∃ tv', Rd w W' B tv' ao n c (a + sz) (l ++ [t]) := by
  obtain ⟨i0, hi, hz0, hz1, hz2⟩ : ∃ i, Try.prog.info? 120 = some i ∧ i.zero = some .nilIface ∧ i.size = 1 ∧ i.bytes = 16 := by
    have := info89
    cases h : Try.prog.info? 120 with
    | none => rw [h] at this; cases this
    | some i => rw [h] at this; simp at this; exact ⟨i, rfl, this.1, this.2.1, this.2.2⟩
  obtain ⟨ax, cx, etv⟩ := own_shape H.out.own
  subst etv
  have c0 := H.out.blk.cell (j := 0) rfl
  have c1 : W.cell? ⟨B, 1, none⟩ = some (.int .i64 (a : Int)) := H.out.blk.cell (j := 1) rfl
  have c2 : W.cell? ⟨B, 2, none⟩ = some (.slice ax l.length cx) := H.out.blk.cell (j := 2) rfl
  clear c0
  have he1 := env_one t
  obtain ⟨tt, tx, hET⟩ := env_iface t
  rw [hET] at he1 ⊢
  have HET := Hid.mk' hET
  clear hET
  go_enter Try.func49, Try.ntmps49
  go_wp2_with (at_builtin; refine append_srv rfl (.tmp 10) (.tmp 12) 62 rfl w.heap.size 120 i0 .nilIface 1 16 Try.underlying62 hi hz0 hz1 hz2 rfl (by decide) (.slice ax l.length cx) l.length (ev l) rfl (H.out.own.alloc _) (.slice (some ⟨W.heap.size, 0, none⟩) 1 1) 1 [.iface tt tx] rfl (.inr ⟨⟨W.heap.size, 0, none⟩, 1, rfl, fun k u hk => lit_cells W _ 120 k u hk⟩) rfl (by intro u hu; rw [List.mem_singleton.1 hu]; exact he1) (by unfold maxLen; omega) (by omega) (bAlloc H.out.bel _).size ?_)
  intro v' w5 hown hgrow hfr
  obtain ⟨ay, cy, ev'⟩ := own_shape hown
  subst ev'
  have hfarB := own_far H.out.own H.out.blk (by decide)
  have HB5 : Hid (Blk w5 B 64 #[.slice ao n c, .int .i64 (a : Int), .slice ax l.length cx]) := grow_blk (H.out.blk.keep (bAlloc (Below.refl _ _) _)) hgrow hfarB
  have L5 : Hid (Below w.heap.size w w5) := (bAlloc H.out.bel _).grown hgrow (bAlloc H.out.bel _).size (fun k hk => (H.out.own.lt k hk).1)
  have O5 : Hid (w5.ownsRow w.heap.size 120 1 (.slice ay (l.length + 1) cy) (l ++ [t]).length (ev (l ++ [t]))) := by
    unfold Hid ev; rw [List.map_append, List.length_append, List.map_singleton, HET.out]; exact hown
  clear hown hgrow hfr hfarB
  have d1 : w5.cell? ⟨B, 1, none⟩ = some (.int .i64 (a : Int)) := HB5.out.cell (j := 1) rfl
  have d2 : w5.cell? ⟨B, 2, none⟩ = some (.slice ax l.length cx) := HB5.out.cell (j := 2) rfl
  have z1 := HB5.out.frozen 1
  have z2 := HB5.out.frozen 2
  have hlow := Hid.mk' H.out.low
  clear c1 c2 H
  go_wp2
  refine bodyPost_end (v := .tuple #[]) (by simp [results, Try.results49]) rfl ?_
  refine ⟨rfl, .slice ay (l.length + 1) cy, (L5.out.setCell hlow.out _).setCell hlow.out _, hlow.out, ?_, ?_⟩
  · have := (HB5.out.set (j := 2) (.slice ay (l.length + 1) cy)).set (j := 1) (.int .i64 ((a : Int) + (sz : Int)))
    simpa using this
  · have hf := own_far O5.out HB5.out (by decide)
    exact own_setCell (own_setCell O5.out hf) hf

/-- what lies at the end -/
def lastV (l : List Th) : Value := if l = [] then .nilIface else env (th l (l.length - 1))
set_option maxRecDepth 4000 in
set_option maxHeartbeats 4000000 in
theorem last_any (w W : World) (B : Nat) (tv : Value) (ao : Option Addr) (n c a : Nat) (l : List Th) (hl : l.length ≤ 256) (H : Hid (Rd w W B tv ao n c a l)) :
    Calls Try.prog 81 #[.pointer (some ⟨B, 0, none⟩)] W fun e W' => e = .returned (lastV l) ∧ Below W.heap.size W W' := by
  obtain ⟨ax, cx, etv⟩ := own_shape H.out.own
  subst etv
  have c2 : W.cell? ⟨B, 2, none⟩ = some (.slice ax l.length cx) := H.out.blk.cell (j := 2) rfl
  by_cases h0 : l = []
  · have hz : (l.length : Int) = 0 := by rw [h0]; rfl
    have HV : Hid (lastV l = .nilIface) := by unfold Hid lastV; rw [if_pos h0]
    clear h0
    go_enter Try.func81, Try.ntmps81
    go_wp2
    go_ret
    exact ⟨by rw [HV.out]; rfl, Below.refl _ _⟩
  · have hp : 0 < l.length := List.length_pos_iff.2 h0
    have HV : Hid (lastV l = env (th l (l.length - 1))) := by unfold Hid lastV; rw [if_neg h0]
    obtain ⟨g, cp, e1, _, _⟩ := own_some H.out.own hp
    injection e1 with e1 _ _
    subst e1
    have c3 : W.cell? ⟨g, l.length - 1, none⟩ = some (env (th l (l.length - 1))) := by
      rcases own_srv H.out.own with ⟨e, _⟩ | ⟨ad, c, e, hc⟩
      · cases e
      · injection e with e _ _
        injection e with e
        have := hc (l.length - 1) _ (ev_at l (by omega))
        rw [← e, add_none, Nat.zero_add] at this
        exact this
    generalize env (th l (l.length - 1)) = E at *
    have hne : ((l.length : Int) == 0) = false := by simp; omega
    have hn1 : (0 : Int) ≤ (l.length : Int) - 1 := by omega
    have hn2 : (l.length : Int) - 1 < (l.length : Int) := by omega
    have hn3 : ((l.length : Int) - 1).toNat = l.length - 1 := by omega
    clear h0
    go_enter Try.func81, Try.ntmps81
    go_wp2_with fail
    go_quiet (fail)
    go_wp2
    go_ret
    exact ⟨by rw [HV.out]; rfl, bDrewN _ _⟩
/-- an item of a set: from, to, how many bytes -/
def itm (p : List UInt8) (i : Nat) : Nat × Nat × Nat := if i + 2 < p.length ∧ bn p (i + 1) = 45 ∧ bn p (i + 2) ≠ 93 then (bn p i, bn p (i + 2), 3) else (bn p i, bn p i, 1)
set_option maxRecDepth 4000 in
set_option maxHeartbeats 4000000 in
theorem item_any (g o n c i : Nat) (p : List UInt8) (w : World) (hi : i < p.length) (hn : p.length = i + n) (hbig : n ≤ 140737488355328) (hc : Hid (∀ j, j < n → w.cell? ⟨g, o + j, none⟩ = some (.int .u8 (bn p (i + j) : Int)))) :
    Calls Try.prog 82 #[.slice (some ⟨g, o, none⟩) n c] w fun e w' => e = .returned (.tuple #[.int .u8 ((itm p i).1 : Int), .int .u8 ((itm p i).2.1 : Int), .int .i64 ((itm p i).2.2 : Int)]) ∧ Below w.heap.size w w' := by
  have c0 := hc.out 0 (by omega)
  by_cases h2 : 2 < n
  · have c1 := hc.out 1 (by omega)
    have c2 := hc.out 2 (by omega)
    have h2' : (2 : Int) < (n : Int) := by omega
    obtain ⟨x1, hx1⟩ : ∃ x, x = bn p (i + 1) := ⟨_, rfl⟩
    obtain ⟨x2, hx2⟩ : ∃ x, x = bn p (i + 2) := ⟨_, rfl⟩
    rw [← hx1] at c1
    rw [← hx2] at c2
    by_cases k1 : x1 = 45
    · have k1' : ((x1 : Int) == 45) = true := by simp; omega
      by_cases k2 : x2 = 93
      · have k2' : ((x2 : Int) != 93) = false := by simp; omega
        have HE : Hid (itm p i = (bn p i, bn p i, 1)) := by unfold Hid itm; rw [if_neg (by omega)]
        clear hx1 hx2
        generalize itm p i = E at *
        rw [Nat.add_zero, Nat.add_zero] at c0
        go_enter Try.func82, Try.ntmps82
        go_wp2_with fail
        go_quiet (fail)
        go_wp2
        refine bodyPost_ret (results_tmp3 rfl _ _ _) rfl ?_
        exact ⟨by rw [HE.out]; rfl, bDrewN _ _⟩
      · have k2' : ((x2 : Int) != 93) = true := by simp; omega
        have HE : Hid (itm p i = (bn p i, x2, 3)) := by unfold Hid itm; rw [if_pos (by omega), hx2]
        clear hx1 hx2
        generalize itm p i = E at *
        rw [Nat.add_zero, Nat.add_zero] at c0
        go_enter Try.func82, Try.ntmps82
        go_wp2_with fail
        go_quiet (fail)
        go_wp2
        refine bodyPost_ret (results_tmp3 rfl _ _ _) rfl ?_
        exact ⟨by rw [HE.out]; rfl, bDrewN _ _⟩
    · have k1' : ((x1 : Int) == 45) = false := by simp; omega
      have HE : Hid (itm p i = (bn p i, bn p i, 1)) := by unfold Hid itm; rw [if_neg (by omega)]
      clear hx1 hx2
      generalize itm p i = E at *
      rw [Nat.add_zero, Nat.add_zero] at c0
      go_enter Try.func82, Try.ntmps82
      go_wp2_with fail
      go_quiet (fail)
      go_wp2
      refine bodyPost_ret (results_tmp3 rfl _ _ _) rfl ?_
      exact ⟨by rw [HE.out]; rfl, bDrewN _ _⟩
  · have h2' : decide ((2 : Int) < (n : Int)) = false := by simp; omega
    have h2'' : ¬ ((2 : Int) < (n : Int)) := by omega
    have hn0 : (0 : Int) < (n : Int) := by omega
    have HE : Hid (itm p i = (bn p i, bn p i, 1)) := by unfold Hid itm; rw [if_neg (by omega)]
    generalize itm p i = E at *
    rw [Nat.add_zero, Nat.add_zero] at c0
    go_enter Try.func82, Try.ntmps82
    go_wp2_with fail
    go_quiet (fail)
    go_wp2
    refine bodyPost_ret (results_tmp3 rfl _ _ _) rfl ?_
    exact ⟨by rw [HE.out]; rfl, bDrewN _ _⟩
end Go.Proofs.Ytaakgoojcogbcaa
