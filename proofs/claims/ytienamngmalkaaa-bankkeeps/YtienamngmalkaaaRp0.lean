/- quoinref15.Put: facts for the way; refusals. -/
import Derived.Test.YtienamngmalkaaaAll
import Derived.Deep.CutRange
namespace Go.Proofs.Ytienamngmalkaaa
open Go.RowKit

set_option maxRecDepth 8000
/-- a bank whose texts lie in new memory -/
structure NewR (w W : World) (N : List Rg) (P : List Ct) : Prop where
  len : N.length = 37
  fl : Fl N P
  own : ∀ (k : Nat) (r : Rg) (c : Ct), N[k]? = some r → P[k]? = some c → W.ownsRow w.heap.size 5 1 (.slice r.a r.n r.c) r.n (bv c.t)
  bel : Below w.heap.size w W
theorem New.newR {w W : World} {N : List Rg} {P : List Ct} (h : New w W N P) : NewR w W N P := ⟨h.len, h.fl, fun k _ _ h1 h2 => h.own.own k _ (rows_at h1 h2), h.own.bel⟩
theorem NewR.rdb {w W : World} {N : List Rg} {P : List Ct} (h : NewR w W N P) (hP : ∀ (k : Nat) (c : Ct), P[k]? = some c → c.t.length ≤ 140737488351232) : Rdb W N P := by
  refine ⟨h.len, by rw [← h.fl.1, h.len], fun k r c h1 h2 => ?_⟩
  obtain ⟨e1, e2, e3⟩ := h.fl.2 k r c h1 h2
  have ho := h.own k r c h1 h2
  have hb := hP k c h2
  obtain ⟨a, cc, hv, hT⟩ := own_txl (l := c.t) ho (by omega)
  obtain ⟨e4, e5⟩ : r.a = a ∧ r.c = cc := by simpa using hv
  subst e4 e5
  exact ⟨e1, e2, hT, by omega⟩
theorem NewR.of {w W : World} {N : List Rg} {P P' : List Ct} (h : NewR w W N P) (e : P' = P) : NewR w W N P' := by rw [e]; exact h
theorem own_type {W : World} {base n B e : Nat} {v : Value} {xs : List Value} {cs : Array Value} (h : W.ownsRow base 5 1 v n xs) (hB : Blk W B e cs) (he : e ≠ 5) {W' : World} (hg : W.grownBy W' (some B)) : W'.ownsRow base 5 1 v n xs := by
  refine h.kept hg ?_
  rcases h.2 with ⟨rfl, _⟩ | ⟨g, cap, cur, rfl, _, hgg, _⟩
  · exact .inl rfl
  · refine .inr fun e9 => ?_
    simp [Value.ownBlock] at e9
    subst e9
    unfold Blk at hB
    rw [hB] at hgg
    simp at hgg
    exact he hgg.2
/-- the reference's bank on the way: at block p -/
structure Ro (w : World) (L : List Rg) (s l : Bool) (a : Option Addr) (n c p : Nat) (M : List Rg) (P : List Ct) (W : World) : Prop where
  bx : Bx w W L s l a n c
  b : Blk W p 28 (bk M)
  len : M.length = 37
  fl : Fl M P
  own : ∀ (k : Nat) (r : Rg) (d : Ct), M[k]? = some r → P[k]? = some d → W.ownsRow (w.heap.size + 1 + 1 + 1) 5 1 (.slice r.a r.n r.c) r.n (bv d.t)
  pq : w.heap.size + 1 + 1 < p
theorem Ro.keep {w : World} {L : List Rg} {s l : Bool} {a : Option Addr} {n c p : Nat} {M : List Rg} {P : List Ct} {W W' : World} (h : Ro w L s l a n c p M P W) (hb : Below W.heap.size W W') : Ro w L s l a n c p M P W' :=
  ⟨h.bx.keep hb, h.b.keep hb, h.len, h.fl, fun k r d h1 h2 => own_keep (h.own k r d h1 h2) hb, h.pq⟩
theorem Fl.set {M : List Rg} {P : List Ct} (h : Fl M P) (j : Nat) {r : Rg} {d : Ct} (h1 : r.s = d.s) (h2 : r.l = d.l) (h3 : r.n = d.t.length) : Fl (M.set j r) (P.set j d) := by
  refine ⟨by simp [h.1], fun k x y hx hy => ?_⟩
  rcases set_at hx with ⟨hne, hx⟩ | ⟨e, rfl⟩
  · rcases set_at hy with ⟨_, hy⟩ | ⟨e2, rfl⟩
    · exact h.2 k x y hx hy
    · omega
  · rcases set_at hy with ⟨hne, hy⟩ | ⟨e2, rfl⟩
    · omega
    · exact ⟨h1, h2, h3⟩
theorem Bx.putp {w W : World} {L : List Rg} {s l : Bool} {a : Option Addr} {n c p k : Nat} (h : Bx w W L s l a n c) (hp : w.heap.size + 1 + 1 < p) (s' l' : Bool) (v : Value) : Bx w (putr W p k s' l' v) L s l a n c :=
  ⟨below_putr h.bel (by omega) _ _ _, h.b0.putr_off (by omega) _ _ _, h.b1.putr_off (by omega) _ _ _, h.b2.putr_off (by omega) _ _ _⟩
/-- a register of it is set -/
theorem Ro.put {w : World} {L : List Rg} {s l : Bool} {a : Option Addr} {n c p : Nat} {M : List Rg} {P : List Ct} {W : World} (h : Ro w L s l a n c p M P W) (j : Nat) {r : Rg} {d : Ct} (h1 : r.s = d.s) (h2 : r.l = d.l) (h3 : r.n = d.t.length) (ho : W.ownsRow (w.heap.size + 1 + 1 + 1) 5 1 (.slice r.a r.n r.c) r.n (bv d.t)) :
    Ro w L s l a n c p (M.set j r) (P.set j d) (putr W p j r.s r.l (.slice r.a r.n r.c)) := by
  have hg := grown_putr W p j r.s r.l (.slice r.a r.n r.c)
  refine ⟨h.bx.putp h.pq _ _ _, h.b.putr r, by simp [h.len], h.fl.set j h1 h2 h3, fun k x y hx hy => ?_, h.pq⟩
  rcases set_at hx with ⟨hne, hx⟩ | ⟨e, rfl⟩
  · rcases set_at hy with ⟨_, hy⟩ | ⟨e2, rfl⟩
    · exact own_type (h.own k x y hx hy) h.b (by decide) hg
    · omega
  · rcases set_at hy with ⟨hne, hy⟩ | ⟨e2, rfl⟩
    · omega
    · exact own_type ho h.b (by decide) hg
theorem Ro.copied {w : World} {L : List Rg} {s l : Bool} {a : Option Addr} {n c p : Nat} {M : List Rg} {P : List Ct} {W W' : World} (h : Ro w L s l a n c p M P W) (hb : Below W.heap.size W W') (j : Nat) {dl : Bool} {dt : List UInt8} {a' : Option Addr} {n' c' : Nat} (hn : n' = dt.length) (ho : W'.ownsRow W.heap.size 5 1 (.slice a' n' c') n' (bv dt)) :
    Ro w L s l a n c p (M.set j ⟨true, dl, a', n', c'⟩) (P.set j ⟨true, dl, dt⟩) (putr W' p j true dl (.slice a' n' c')) :=
  (h.keep hb).put j (r := ⟨true, dl, a', n', c'⟩) (d := ⟨true, dl, dt⟩) rfl rfl hn (own_lower ho (by have := h.bx.b2.lt; omega))
theorem Ro.cells {w : World} {L : List Rg} {s l : Bool} {a : Option Addr} {n c p : Nat} {M : List Rg} {P : List Ct} {W : World} (h : Ro w L s l a n c p M P W) {j : Nat} (hj : j < 37) : ∃ y : Rg, M[j]? = some y ∧ W.cell? ⟨p, 3 * j, none⟩ = some (.bool y.s) ∧ W.cell? ⟨p, 3 * j + 1, none⟩ = some (.bool y.l) ∧ W.cell? ⟨p, 3 * j + 2, none⟩ = some (.slice y.a y.n y.c) := by
  have hjl : j < M.length := by rw [h.len]; exact hj
  have hy : M[j]? = some M[j] := List.getElem?_eq_getElem hjl
  obtain ⟨h1, h2, h3⟩ := h.b.rg hy
  exact ⟨_, hy, h1, h2, h3⟩
/-- the end: the bank as the answer -/
theorem Ro.fin {w : World} {L : List Rg} {s l : Bool} {a : Option Addr} {n c p : Nat} {M : List Rg} {P : List Ct} {W : World} (h : Ro w L s l a n c p M P W) : NewR w (put28 W (w.heap.size + 1 + 1) M) M P :=
  ⟨h.len, h.fl, fun k r d h1 h2 => own_lower (own_type (h.own k r d h1 h2) h.bx.b2 (by decide) (grown_put28 _ _ _)) (by omega), below_put28 h.bx.bel (by omega) M⟩
set_option maxHeartbeats 4000000 in
theorem rput_name (L : List Rg) (x : Nat) (how : Int) (s l : Bool) (a : Option Addr) (n c : Nat) (w : World) (hx : x < 256) (hk : rix x = none) :
    Calls Try.prog 15 #[.agg (bk L), .int .u8 (x : Int), .int .i64 how, .agg #[.bool s, .bool l, .slice a n c]] w fun e w' => ∃ N, e = .returned (.tuple #[.agg (bk N), .int .i64 150]) ∧ NewR w w' N zP := by
  have hz := z28
  have hbz := b28
  generalize hW3 : ((w.alloc (.cells (bk L) 28)).alloc (.cells #[.bool s, .bool l, .slice a n c] 24)).alloc (.cells (bk zb) 28) = W3
  have BX : Hid (Bx w W3 L s l a n c) := by subst hW3; exact Bx.new w L s l a n c
  have CV := Hid.mk' (rvalid_any x W3 hx)
  have r0 : W3.cell? ⟨w.heap.size + 1, 0, none⟩ = some (.bool s) := BX.out.b1.cell rfl
  have r1 : W3.cell? ⟨w.heap.size + 1, 1, none⟩ = some (.bool l) := BX.out.b1.cell rfl
  have r2 : W3.cell? ⟨w.heap.size + 1, 2, none⟩ = some (.slice a n c) := BX.out.b1.cell rfl
  rw [hk] at CV
  go_enter Try.func15, Try.ntmps15
  go_wp2_with fail
  clear hW3
  refine CV.out.mono ?_
  rintro e w3 ⟨rfl, hw⟩
  have hq := hw.symm
  subst hq
  clear hw CV
  have BP := Hid.mk' (Blk.put28 rfl rfl BX.out.b2 (L := zb))
  have hlv := ld28 rfl BP.out
  have NW := Hid.mk' (new_zero (below_put28 BX.out.bel (show w.heap.size ≤ w.heap.size + 1 + 1 by omega) zb))
  have BZ := Hid.mk' BX.out.b2
  go_upto_region 2 with fail
  go_wp2_with (refine wl_store28 (.tmp 8) (.tmp 15) rfl rfl rfl rfl rfl rfl BZ.out ?_)
  generalize put28 W3 (w.heap.size + 1 + 1) zb = WP at *
  exact bodyPost_ret (v := .tuple #[.agg (bk zb), .int .i64 150]) (by simp [results, Try.results15, asAddr, hlv]) rfl ⟨_, rfl, NW.out.newR⟩
set_option maxHeartbeats 4000000 in
theorem rput_how (L : List Rg) (x : Nat) (how : Int) (s l : Bool) (a : Option Addr) (n c : Nat) (w : World) (hx : x < 256) (k : Nat) (hk : rix x = some k) (hh : decide (1 ≤ how ∧ how ≤ 3) = false) :
    Calls Try.prog 15 #[.agg (bk L), .int .u8 (x : Int), .int .i64 how, .agg #[.bool s, .bool l, .slice a n c]] w fun e w' => ∃ N, e = .returned (.tuple #[.agg (bk N), .int .i64 2]) ∧ NewR w w' N zP := by
  have hz := z28
  have hbz := b28
  generalize hW3 : ((w.alloc (.cells (bk L) 28)).alloc (.cells #[.bool s, .bool l, .slice a n c] 24)).alloc (.cells (bk zb) 28) = W3
  have BX : Hid (Bx w W3 L s l a n c) := by subst hW3; exact Bx.new w L s l a n c
  have CV := Hid.mk' (rvalid_any x W3 hx)
  have r0 : W3.cell? ⟨w.heap.size + 1, 0, none⟩ = some (.bool s) := BX.out.b1.cell rfl
  have r1 : W3.cell? ⟨w.heap.size + 1, 1, none⟩ = some (.bool l) := BX.out.b1.cell rfl
  have r2 : W3.cell? ⟨w.heap.size + 1, 2, none⟩ = some (.slice a n c) := BX.out.b1.cell rfl
  rw [hk] at CV
  have h9 : ¬ (1 ≤ how ∧ how ≤ 3) := by simpa using hh
  clear hh
  by_cases h1 : how < 1
  · skip
    go_enter Try.func15, Try.ntmps15
    go_wp2_with fail
    clear hW3
    refine CV.out.mono ?_
    rintro e w3 ⟨rfl, hw⟩
    have hq := hw.symm
    subst hq
    clear hw CV
    have BP := Hid.mk' (Blk.put28 rfl rfl BX.out.b2 (L := zb))
    have hlv := ld28 rfl BP.out
    have NW := Hid.mk' (new_zero (below_put28 BX.out.bel (show w.heap.size ≤ w.heap.size + 1 + 1 by omega) zb))
    have BZ := Hid.mk' BX.out.b2
    go_upto_region 4 with fail
    go_wp2_with (refine wl_store28 (.tmp 8) (.tmp 22) rfl rfl rfl rfl rfl rfl BZ.out ?_)
    generalize put28 W3 (w.heap.size + 1 + 1) zb = WP at *
    exact bodyPost_ret (v := .tuple #[.agg (bk zb), .int .i64 2]) (by simp [results, Try.results15, asAddr, hlv]) rfl ⟨_, rfl, NW.out.newR⟩
  · have h2 : 3 < how := by omega
    go_enter Try.func15, Try.ntmps15
    go_wp2_with fail
    clear hW3
    refine CV.out.mono ?_
    rintro e w3 ⟨rfl, hw⟩
    have hq := hw.symm
    subst hq
    clear hw CV
    have BP := Hid.mk' (Blk.put28 rfl rfl BX.out.b2 (L := zb))
    have hlv := ld28 rfl BP.out
    have NW := Hid.mk' (new_zero (below_put28 BX.out.bel (show w.heap.size ≤ w.heap.size + 1 + 1 by omega) zb))
    have BZ := Hid.mk' BX.out.b2
    go_upto_region 4 with fail
    go_wp2_with (refine wl_store28 (.tmp 8) (.tmp 22) rfl rfl rfl rfl rfl rfl BZ.out ?_)
    generalize put28 W3 (w.heap.size + 1 + 1) zb = WP at *
    exact bodyPost_ret (v := .tuple #[.agg (bk zb), .int .i64 2]) (by simp [results, Try.results15, asAddr, hlv]) rfl ⟨_, rfl, NW.out.newR⟩
set_option maxHeartbeats 4000000 in
theorem rput_long (L : List Rg) (x : Nat) (how : Int) (s l : Bool) (a : Option Addr) (n c : Nat) (w : World) (hx : x < 256) (k : Nat) (hk : rix x = some k) (hh : decide (1 ≤ how ∧ how ≤ 3) = true) (hn : 65536 < n) :
    Calls Try.prog 15 #[.agg (bk L), .int .u8 (x : Int), .int .i64 how, .agg #[.bool s, .bool l, .slice a n c]] w fun e w' => ∃ N, e = .returned (.tuple #[.agg (bk N), .int .i64 1]) ∧ NewR w w' N zP := by
  have hz := z28
  have hbz := b28
  generalize hW3 : ((w.alloc (.cells (bk L) 28)).alloc (.cells #[.bool s, .bool l, .slice a n c] 24)).alloc (.cells (bk zb) 28) = W3
  have BX : Hid (Bx w W3 L s l a n c) := by subst hW3; exact Bx.new w L s l a n c
  have CV := Hid.mk' (rvalid_any x W3 hx)
  have r0 : W3.cell? ⟨w.heap.size + 1, 0, none⟩ = some (.bool s) := BX.out.b1.cell rfl
  have r1 : W3.cell? ⟨w.heap.size + 1, 1, none⟩ = some (.bool l) := BX.out.b1.cell rfl
  have r2 : W3.cell? ⟨w.heap.size + 1, 2, none⟩ = some (.slice a n c) := BX.out.b1.cell rfl
  rw [hk] at CV
  have h9 : 1 ≤ how ∧ how ≤ 3 := by simpa using hh
  have h3 : decide (how < 1) = false := by simp; omega
  have h4 : decide (3 < how) = false := by simp; omega
  clear h9
  have hn' : decide ((65536 : Int) < (n : Int)) = true := by simp; omega
  clear hh hn
  go_enter Try.func15, Try.ntmps15
  go_wp2_with fail
  clear hW3
  refine CV.out.mono ?_
  rintro e w3 ⟨rfl, hw⟩
  have hq := hw.symm
  subst hq
  clear hw CV
  have BP := Hid.mk' (Blk.put28 rfl rfl BX.out.b2 (L := zb))
  have hlv := ld28 rfl BP.out
  have NW := Hid.mk' (new_zero (below_put28 BX.out.bel (show w.heap.size ≤ w.heap.size + 1 + 1 by omega) zb))
  have BZ := Hid.mk' BX.out.b2
  go_upto_region 6 with fail
  go_wp2_with (refine wl_store28 (.tmp 8) (.tmp 27) rfl rfl rfl rfl rfl rfl BZ.out ?_)
  generalize put28 W3 (w.heap.size + 1 + 1) zb = WP at *
  exact bodyPost_ret (v := .tuple #[.agg (bk zb), .int .i64 1]) (by simp [results, Try.results15, asAddr, hlv]) rfl ⟨_, rfl, NW.out.newR⟩
set_option maxHeartbeats 4000000 in
theorem rput_line (L : List Rg) (x : Nat) (how : Int) (s l : Bool) (a : Option Addr) (n c : Nat) (w : World) (hx : x < 256) (k : Nat) (t : List UInt8) (HT : Hid (Tx w a n c t)) (hk : rix x = some k) (hh : decide (1 ≤ how ∧ how ≤ 3) = true) (hn : n ≤ 65536) (hl : l = true) (he : enl t = false) :
    Calls Try.prog 15 #[.agg (bk L), .int .u8 (x : Int), .int .i64 how, .agg #[.bool s, .bool l, .slice a n c]] w fun e w' => ∃ N, e = .returned (.tuple #[.agg (bk N), .int .i64 2]) ∧ NewR w w' N zP := by
  subst hl
  have hz := z28
  have hbz := b28
  generalize hW3 : ((w.alloc (.cells (bk L) 28)).alloc (.cells #[.bool s, .bool true, .slice a n c] 24)).alloc (.cells (bk zb) 28) = W3
  have BX : Hid (Bx w W3 L s true a n c) := by subst hW3; exact Bx.new w L s true a n c
  have CV := Hid.mk' (rvalid_any x W3 hx)
  have r0 : W3.cell? ⟨w.heap.size + 1, 0, none⟩ = some (.bool s) := BX.out.b1.cell rfl
  have r1 : W3.cell? ⟨w.heap.size + 1, 1, none⟩ = some (.bool true) := BX.out.b1.cell rfl
  have r2 : W3.cell? ⟨w.heap.size + 1, 2, none⟩ = some (.slice a n c) := BX.out.b1.cell rfl
  rw [hk] at CV
  have h9 : 1 ≤ how ∧ how ≤ 3 := by simpa using hh
  have h3 : decide (how < 1) = false := by simp; omega
  have h4 : decide (3 < how) = false := by simp; omega
  clear h9
  have hn' : decide ((65536 : Int) < (n : Int)) = false := by simp; omega
  have HN := Hid.mk' hn
  clear hh hn
  have hlen := HT.out.len
  rcases Nat.eq_zero_or_pos n with h0 | h0
  · subst h0
    clear hlen
    go_enter Try.func15, Try.ntmps15
    go_wp2_with fail
    clear hW3
    refine CV.out.mono ?_
    rintro e w3 ⟨rfl, hw⟩
    have hq := hw.symm
    subst hq
    clear hw CV
    have BP := Hid.mk' (Blk.put28 rfl rfl BX.out.b2 (L := zb))
    have hlv := ld28 rfl BP.out
    have NW := Hid.mk' (new_zero (below_put28 BX.out.bel (show w.heap.size ≤ w.heap.size + 1 + 1 by omega) zb))
    have BZ := Hid.mk' BX.out.b2
    go_upto_region 8 with fail
    go_wp2_with (refine wl_store28 (.tmp 8) (.tmp 47) rfl rfl rfl rfl rfl rfl BZ.out ?_)
    generalize put28 W3 (w.heap.size + 1 + 1) zb = WP at *
    exact bodyPost_ret (v := .tuple #[.agg (bk zb), .int .i64 2]) (by simp [results, Try.results15, asAddr, hlv]) rfl ⟨_, rfl, NW.out.newR⟩
  · have HT3 := HT.out.keep BX.out.bel
    obtain ⟨g, o, rfl, hc⟩ := HT3.at h0
    have hce := hc (n - 1) (by omega)
    have hlast : ¬ at8 t (n - 1) = 10 := by
      have := enl_at (t := t) (by omega)
      rw [he, hlen] at this; simpa using this.symm
    obtain ⟨k1, hk1⟩ : ∃ k, k = n - 1 := ⟨_, rfl⟩
    obtain ⟨y, hy⟩ : ∃ y, y = at8 t (n - 1) := ⟨_, rfl⟩
    rw [← hk1, show at8 t k1 = y by rw [hk1]; exact hy.symm] at hce
    rw [← hy] at hlast
    have hy1 : ((y.toNat : Int) == 10) = false := by
      have : y.toNat ≠ 10 := fun e => hlast (UInt8.toNat_inj.1 (by rw [e]; rfl))
      simp; omega
    have hy2 : ¬ (y.toNat : Int) = 10 := by simpa using hy1
    have hy3 : ((y.toNat : Int) != 10) = true := by simpa using hy2
    have i0 : ((n : Int) == 0) = false := by simp; omega
    have i1 : IntKind.i64.wrap ((n : Int) - 1) = (k1 : Int) := by have := HN.out; rw [IntKind.wrap_i64]; omega
    have i2 : (k1 : Int) < (n : Int) := by omega
    have i3 : (0 : Int) ≤ (k1 : Int) := by omega
    clear hk1 hlast hc h0 hy hlen HT3
    go_enter Try.func15, Try.ntmps15
    go_wp2_with fail
    clear hW3
    refine CV.out.mono ?_
    rintro e w3 ⟨rfl, hw⟩
    have hq := hw.symm
    subst hq
    clear hw CV
    have BP := Hid.mk' (Blk.put28 rfl rfl BX.out.b2 (L := zb))
    have hlv := ld28 rfl BP.out
    have NW := Hid.mk' (new_zero (below_put28 BX.out.bel (show w.heap.size ≤ w.heap.size + 1 + 1 by omega) zb))
    have BZ := Hid.mk' BX.out.b2
    go_upto_region 8 with fail
    go_wp2_with (refine wl_store28 (.tmp 8) (.tmp 47) rfl rfl rfl rfl rfl rfl BZ.out ?_)
    generalize put28 W3 (w.heap.size + 1 + 1) zb = WP at *
    exact bodyPost_ret (v := .tuple #[.agg (bk zb), .int .i64 2]) (by simp [results, Try.results15, asAddr, hlv]) rfl ⟨_, rfl, NW.out.newR⟩
end Go.Proofs.Ytienamngmalkaaa
