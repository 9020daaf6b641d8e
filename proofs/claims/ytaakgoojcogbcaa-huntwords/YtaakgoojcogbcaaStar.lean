/- readStar, readEscape. -/
import Derived.Test.YtaakgoojcogbcaaTa
namespace Go.Proofs.Ytaakgoojcogbcaa
open Go.RowKit
/-- a star, read -/
def starR (i : Nat) (l : List Th) : Int × Nat × List Th :=
  if l = [] ∨ (th l (l.length - 1)).k = 2 then (-1, i + 1, l ++ [one fun x => x == 42])
  else if (th l (l.length - 1)).k = 0 then (-1, i + 1, l.dropLast ++ [many (th l (l.length - 1)).s])
  else (i, i, l)
/-- what a read call leaves -/
def Left (w : World) (B : Nat) (ao : Option Addr) (n c : Nat) (r : Int × Nat × List Th) (e : Ending) (W' : World) : Prop := e = .returned (.int .i64 r.1) ∧ ∃ tv', Rd w W' B tv' ao n c r.2.1 r.2.2

set_option maxRecDepth 8000 in
set_option maxHeartbeats 4000000 in
theorem star_lone (w W : World) (B : Nat) (tv : Value) (ao : Option Addr) (n c a : Nat) (l : List Th) (LV : Value) (hl : l.length ≤ 256) (ha : a ≤ 256) (H : Hid (Rd w W B tv ao n c a l)) (HL : Hid (lastV l = LV)) (hLV : LV = .nilIface ∨ LV = .iface 89 (.agg #[])) :
    Calls Try.prog 50 #[.pointer (some ⟨B, 0, none⟩)] W fun e W' => Left w B ao n c (-1, a + 1, l ++ [one fun x => x == 42]) e W' := by
  have C1 := Hid.mk' (last_any w W B tv ao n c a l hl H)
  rw [HL.out] at C1
  clear HL
  rcases hLV with rfl | rfl
  all_goals
    have q1 := ta_nil65
    have q2 : ∀ w, (Instr.typeAssert (.iface 89 (.agg #[])) 120 89 true).run Try.prog w = .ok (.tuple #[.agg #[], .bool true]) w := fun w => ta65 89 _ w
    go_enter Try.func50, Try.ntmps50
    go_wp2_with (go_at_call 81; refine C1.out.mono ?_; rintro e w1 ⟨rfl, hb1⟩)
    clear C1
    have H1 := Hid.mk' (H.out.keep hb1)
    clear hb1 H
    have C2 := Hid.mk' (single_any 42 w1 (by omega))
    go_wp2_with (go_at_call 54; refine C2.out.mono ?_; rintro e w2 ⟨rfl, hb2⟩)
    clear C2
    have H2 := Hid.mk' (H1.out.keep hb2)
    clear hb2 H1
    have C3 := Hid.mk' (take_any w w2 B tv ao n c a 1 l (one fun x => x == 42) hl ha (by omega) H2)
    rw [show env (one fun x => x == 42) = .iface 96 (.agg (wv fun x => x == 42)) from rfl] at C3
    generalize wv (fun x => x == 42) = WV at *
    go_wp2_with (go_at_call 49; refine C3.out.mono ?_; rintro e w3 ⟨rfl, hx⟩; have HX := Hid.mk' hx; clear hx)
    go_wp2
    go_ret
    exact ⟨rfl, HX.out⟩

theorem drop_last {l : List Th} (h : l ≠ []) : l = l.dropLast ++ [th l (l.length - 1)] := by
  have h1 := List.dropLast_concat_getLast h
  have h2 : l.getLast h = th l (l.length - 1) := by
    rw [List.getLast_eq_getElem]; unfold th; simp
    rw [List.getElem?_eq_getElem (by have := List.length_pos_iff.2 h; omega)]; rfl
  rw [h2] at h1
  exact h1.symm
set_option maxRecDepth 8000 in
set_option maxHeartbeats 4000000 in
theorem star_bad (w W : World) (B : Nat) (tv : Value) (ao : Option Addr) (n c a : Nat) (l : List Th) (T : Nat) (V : Value) (hl : l.length ≤ 256) (H : Hid (Rd w W B tv ao n c a l)) (HL : Hid (lastV l = .iface T V)) (h1 : T ≠ 89) (h2 : T ≠ 96) :
    Calls Try.prog 50 #[.pointer (some ⟨B, 0, none⟩)] W fun e W' => Left w B ao n c ((a : Int), a, l) e W' := by
  have C1 := Hid.mk' (last_any w W B tv ao n c a l hl H)
  rw [HL.out] at C1
  clear HL
  have q1 : ∀ w, (Instr.typeAssert (.iface T V) 120 89 true).run Try.prog w = .ok (.tuple #[.agg #[], .bool false]) w := fun w => by rw [ta65]; unfold taR; rw [if_neg h1]
  have q2 : ∀ w, (Instr.typeAssert (.iface T V) 120 96 true).run Try.prog w = .ok (.tuple #[.agg #[.int .u64 0, .int .u64 0, .int .u64 0, .int .u64 0], .bool false]) w := fun w => by rw [ta72]; unfold taR; rw [if_neg h2]
  have c0 : W.cell? ⟨B, 1, none⟩ = some (.int .i64 (a : Int)) := H.out.blk.cell (j := 1) rfl
  go_enter Try.func50, Try.ntmps50
  go_wp2_with (go_at_call 81; refine C1.out.mono ?_; rintro e w1 ⟨rfl, hb1⟩; have c1 := keepC hb1 c0)
  go_ret
  exact ⟨rfl, _, H.out.keep hb1⟩
set_option maxRecDepth 8000 in
set_option maxHeartbeats 4000000 in
theorem star_one (w W : World) (B : Nat) (tv : Value) (ao : Option Addr) (n c a : Nat) (l : List Th) (s : Nat → Bool) (hl : l.length ≤ 256) (ha : a ≤ 256) (h0 : l ≠ []) (H : Hid (Rd w W B tv ao n c a l)) (HL : Hid (th l (l.length - 1) = one s)) :
    Calls Try.prog 50 #[.pointer (some ⟨B, 0, none⟩)] W fun e W' => Left w B ao n c (-1, a + 1, l.dropLast ++ [many s]) e W' := by
  have C1 := Hid.mk' (last_any w W B tv ao n c a l hl H)
  rw [show lastV l = .iface 96 (.agg (wv s)) by unfold lastV; rw [if_neg h0, HL.out]; rfl] at C1
  unfold wv at C1
  have hp : 0 < l.length := List.length_pos_iff.2 h0
  have hlp : (0 : Int) < (l.length : Int) := by omega
  have hl2 : (l.length : Int) ≤ 256 := by omega
  have hle : (0 : Int) ≤ (l.length : Int) - 1 := by omega
  have hnat : ((l.length : Int) - 1).toNat = l.length - 1 := by omega
  have HD := Hid.mk' (drop_last h0)
  clear h0
  have q1 : ∀ w, (Instr.typeAssert (.iface 96 (.agg #[.int .u64 (wz s 0 : Int), .int .u64 (wz s 1 : Int), .int .u64 (wz s 2 : Int), .int .u64 (wz s 3 : Int)])) 120 89 true).run Try.prog w = .ok (.tuple #[.agg #[], .bool false]) w := fun w => ta65 96 _ w
  have q2 : ∀ w, (Instr.typeAssert (.iface 96 (.agg #[.int .u64 (wz s 0 : Int), .int .u64 (wz s 1 : Int), .int .u64 (wz s 2 : Int), .int .u64 (wz s 3 : Int)])) 120 96 true).run Try.prog w = .ok (.tuple #[.agg #[.int .u64 (wz s 0 : Int), .int .u64 (wz s 1 : Int), .int .u64 (wz s 2 : Int), .int .u64 (wz s 3 : Int)], .bool true]) w := fun w => ta72 96 _ w
  go_enter Try.func50, Try.ntmps50
  go_wp2_with (go_at_call 81; refine C1.out.mono ?_; rintro e w1 ⟨rfl, hb1⟩)
  clear C1
  have H1 := Hid.mk' (H.out.keep hb1)
  clear hb1 H
  obtain ⟨g, cp, etv, hcp, _⟩ := own_some H1.out.own hp
  subst etv
  have c1 : w1.cell? ⟨B, 1, none⟩ = some (.int .i64 (a : Int)) := H1.out.blk.cell (j := 1) rfl
  have c2 : w1.cell? ⟨B, 2, none⟩ = some (.slice (some ⟨g, 0, none⟩) l.length cp) := H1.out.blk.cell (j := 2) rfl
  have z2 := H1.out.blk.frozen 2
  have hBlt := H1.out.blk.lt
  go_wp2_with fail
  go_region
  go_wp2_with fail
  have H2 : Hid (Rd w (w1.setCell ⟨B, 2, none⟩ (.slice (some ⟨g, 0, none⟩) (l.length - 1) cp)) B (.slice (some ⟨g, 0, none⟩) (l.length - 1) cp) ao n c a l.dropLast) := by
    refine ⟨H1.out.bel.setCell H1.out.low _, H1.out.low, H1.out.blk.set (j := 2) _, ?_⟩
    have ho := H1.out.own
    rw [List.length_dropLast]
    have he : ev l = ev l.dropLast ++ [env (th l (l.length - 1))] := by
      conv => lhs; rw [HD.out]
      unfold ev; rw [List.map_append]; rfl
    rw [he] at ho
    have hp2 := own_prefix ho (n := l.length - 1) (by rw [ev_length, List.length_dropLast]; omega) (by omega)
    exact own_setCell hp2 (own_far hp2 H1.out.blk (by decide))
  have H3 := Hid.mk' ((H2.out.keep (bAlloc (Below.refl _ _) (.cells #[.int .u64 (wz s 0 : Int), .int .u64 (wz s 1 : Int), .int .u64 (wz s 2 : Int), .int .u64 (wz s 3 : Int)] 96))).keep (Below.refl _ _).drew)
  refine (take_any w _ B _ ao n c a 1 l.dropLast (many s) (by rw [List.length_dropLast]; omega) ha (by omega) H3).mono ?_
  rintro e w3 ⟨rfl, hx⟩
  clear H2 H3 H1 c1 c2
  go_wp2
  go_ret
  exact ⟨rfl, hx⟩

/-- readStar -/
theorem star_any (w W : World) (B : Nat) (tv : Value) (ao : Option Addr) (n c a : Nat) (l : List Th) (hl : l.length ≤ 256) (ha : a ≤ 256) (H : Hid (Rd w W B tv ao n c a l)) :
    Calls Try.prog 50 #[.pointer (some ⟨B, 0, none⟩)] W fun e W' => Left w B ao n c (starR a l) e W' := by
  unfold starR
  by_cases h0 : l = []
  · rw [if_pos (.inl h0)]
    exact star_lone w W B tv ao n c a l .nilIface hl ha H (by unfold Hid lastV; rw [if_pos h0]) (.inl rfl)
  · by_cases h2 : (th l (l.length - 1)).k = 2
    · rw [if_pos (.inr h2)]
      exact star_lone w W B tv ao n c a l (.iface 89 (.agg #[])) hl ha H (by unfold Hid lastV env; rw [if_neg h0, if_neg (by omega), if_neg (by omega), if_pos h2]) (.inr rfl)
    · rw [if_neg (by rintro (h | h); exact h0 h; exact h2 h)]
      by_cases hk : (th l (l.length - 1)).k = 0
      · rw [if_pos hk]
        refine star_one w W B tv ao n c a l (th l (l.length - 1)).s hl ha h0 H ?_
        unfold Hid one; rw [← hk]
      · rw [if_neg hk]
        have : ∃ T V, lastV l = .iface T V ∧ T ≠ 89 ∧ T ≠ 96 := by
          unfold lastV env
          rw [if_neg h0, if_neg hk, if_neg h2]
          repeat' split
          all_goals exact ⟨_, _, rfl, by decide, by decide⟩
        obtain ⟨T, V, e, h3, h4⟩ := this
        exact star_bad w W B tv ao n c a l T V hl H e h3 h4

/-- an escape, read -/
def escR (p : List UInt8) (i : Nat) (l : List Th) : Int × Nat × List Th :=
  if i + 1 = p.length then (i, i, l)
  else if bn p (i + 1) = 60 then (-1, i + 2, l ++ [fre 4])
  else if bn p (i + 1) = 62 then (-1, i + 2, l ++ [fre 5])
  else (-1, i + 2, l ++ [one fun x => x == bn p (i + 1)])
/-- a byte of the text, in a reader's world -/
theorem tx_cell {w W : World} {ao : Option Addr} {n c : Nat} {p : List UInt8} (h : Tx w ao n c p) (hb : Below w.heap.size w W) {i : Nat} (hi : i < n) : ∃ g o, ao = some ⟨g, o, none⟩ ∧ ∀ j, j < n → W.cell? ⟨g, o + j, none⟩ = some (.int .u8 (bn p j : Int)) :=
  (h.keep hb).at (by omega)
set_option maxRecDepth 8000 in
set_option maxHeartbeats 4000000 in
theorem esc_any (w W : World) (B : Nat) (tv : Value) (ao : Option Addr) (n c a : Nat) (p : List UInt8) (l : List Th) (hl : l.length ≤ 256) (ha : a ≤ 256) (han : a < n) (hn : p.length = n) (hn2 : n ≤ 256) (HT : Hid (Tx w ao n c p)) (H : Hid (Rd w W B tv ao n c a l)) :
    Calls Try.prog 51 #[.pointer (some ⟨B, 0, none⟩)] W fun e W' => Left w B ao n c (escR p a l) e W' := by
  have c0 : W.cell? ⟨B, 0, none⟩ = some (.slice ao n c) := H.out.blk.cell (j := 0) rfl
  have c1 : W.cell? ⟨B, 1, none⟩ = some (.int .i64 (a : Int)) := H.out.blk.cell (j := 1) rfl
  by_cases h0 : a + 1 = p.length
  · have HE : Hid (escR p a l = ((a : Int), a, l)) := by unfold Hid escR; rw [if_pos h0]
    have hb : ((a : Int) + 1 == (n : Int)) = true := by simp; omega
    generalize escR p a l = R at *
    go_enter Try.func51, Try.ntmps51
    go_wp2_with fail
    go_quiet (fail)
    go_wp2
    go_ret
    exact ⟨by rw [HE.out]; rfl, _, by rw [HE.out]; exact H.out.keep (bDrewN _ _)⟩
  · have hb : ((a : Int) + 1 == (n : Int)) = false := by simp; omega
    obtain ⟨g, o, e1, hc⟩ := tx_cell HT.out H.out.bel (i := a + 1) (by omega)
    subst e1
    have cx := hc (a + 1) (by omega)
    clear hc
    have hi1 : (a : Int) + 1 < (n : Int) := by omega
    have hi2 : ((a : Int) + 1).toNat = a + 1 := by omega
    have hlt := bn_lt p (a + 1)
    unfold escR
    rw [if_neg h0]
    obtain ⟨x, hx⟩ : ∃ x, x = bn p (a + 1) := ⟨_, rfl⟩
    rw [← hx] at cx hlt ⊢
    clear hx
    by_cases k1 : x = 60
    · subst k1
      rw [if_pos rfl]
      go_enter Try.func51, Try.ntmps51
      go_wp2_with fail
      go_quiet (fail)
      go_wp2_with fail
      go_quiet (fail)
      go_wp2_with fail
      refine (take_any w _ B tv _ n c a 2 l (fre 4) hl ha (by omega) (Hid.mk' (H.out.keep (by first | exact bDrewN _ _ | exact bT (bDrewN _ _) (bDrewN _ _))))).mono ?_
      rintro e w3 ⟨rfl, hx⟩
      go_wp2
      go_ret
      exact ⟨rfl, hx⟩
    · rw [if_neg k1]
      have k1' : ((x : Int) == 60) = false := by simp; omega
      by_cases k2 : x = 62
      · subst k2
        rw [if_pos rfl]
        go_enter Try.func51, Try.ntmps51
        go_wp2_with fail
        go_quiet (fail)
        go_wp2_with fail
        go_quiet (fail)
        go_wp2_with fail
        refine (take_any w _ B tv _ n c a 2 l (fre 5) hl ha (by omega) (Hid.mk' (H.out.keep (by first | exact bDrewN _ _ | exact bT (bDrewN _ _) (bDrewN _ _))))).mono ?_
        rintro e w3 ⟨rfl, hx⟩
        go_wp2
        go_ret
        exact ⟨rfl, hx⟩
      · rw [if_neg k2]
        have k2' : ((x : Int) == 62) = false := by simp; omega
        go_enter Try.func51, Try.ntmps51
        go_wp2_with fail
        go_quiet (fail)
        go_wp2_with fail
        go_quiet (fail)
        go_wp2_with fail
        refine (single_any x _ hlt).mono ?_
        rintro e w2 ⟨rfl, hb2⟩
        go_wp2_with fail
        refine (take_any w _ B tv _ n c a 2 l (one fun y => y == x) hl ha (by omega) (Hid.mk' (H.out.keep (bT (by first | exact bDrewN _ _ | exact bT (bDrewN _ _) (bDrewN _ _)) hb2)))).mono ?_
        rintro e w3 ⟨rfl, hx⟩
        go_wp2
        go_ret
        exact ⟨rfl, hx⟩
end Go.Proofs.Ytaakgoojcogbcaa
