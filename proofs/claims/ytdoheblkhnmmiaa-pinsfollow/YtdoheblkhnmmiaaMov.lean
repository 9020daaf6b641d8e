/- Regions that draw their order; edits in memory; Move; the reference: Shift, Move. -/
import Derived.Test.YtdoheblkhnmmiaaFit
import Derived.OrdersHeld
namespace Go.Proofs.Ytdoheblkhnmmiaa
open Go.RowKit

set_option maxRecDepth 8000
section
variable {P : Program} {ops : Array Oper} {Q : Exit → Act → World → Prop} {md : Region.Mode} {S : World → Prop}
/-- whichever of these comes up -/
def AllH (P : Program) (md : Region.Mode) (ops : Array Oper) (Q : Exit → Act → World → Prop) (S : World → Prop) (fuel : Nat) (listed : Array Bool) (a : Act) (w : World) (rs : List Nat) : Prop :=
  ∀ i ∈ rs, wpOp P ops Q i (fun a' w' => S w' ∧ wpAnyH P md ops Q S fuel (listed.setIfInBounds i true) a' w') a w
theorem AllH.nil {fuel : Nat} {listed : Array Bool} {a : Act} {w : World} : AllH P md ops Q S fuel listed a w [] := fun _ h => by cases h
theorem AllH.cons {fuel : Nat} {listed : Array Bool} {a : Act} {w : World} {i : Nat} {o : Oper} {rs : List Nat} (ho : ops[i]? = some o)
    (h : ∀ K' : Act → World → Prop, (∀ a w, (S w ∧ wpAnyH P md ops Q S fuel (listed.setIfInBounds i true) a w) → K' a w) → if Region.wanted o (yielded ops a.tmps) = true then Oper.wp P o a w K' Q else K' (a.put o.dst undef) w)
    (hs : AllH P md ops Q S fuel listed a w rs) : AllH P md ops Q S fuel listed a w (i :: rs) := fun j hj => by
  rcases List.mem_cons.1 hj with rfl | hj
  · exact wpOp_step ho h
  · exact hs j hj
end
section
variable {ops : Array Oper} {Q : Exit → Act → World → Prop} {S : World → Prop} {op : Oper} {a : Act} {K : Act → World → Prop} {L M : List Int} {B o : Nat}
theorem yi24 (hw : Region.wanted op (yielded ops a.tmps) = true) (x : Operand) (ho : op.op = .load 24 x) (hx : a.eval x = .pointer (some ⟨B, 0, none⟩)) (hL : L.length = 27) (hS : ∀ w, S w → Blk w B 24 (mk L)) : YieldsIf Try.prog ops S op (.agg (mk L)) a :=
  yieldsIf_load_mid hw 24 x ho B 0 hx (ml L) _ (fun w9 hw => blk_range (pre := []) (mid := ml L) (post := []) (by simpa [mk] using hS w9 hw)) Try.underlying24 rfl (by rw [info24, ml_len, hL])
theorem st24 {w : World} {c : Bool} {E : Prop} (hc : c = true) (x y : Operand) (ho : op.op = .store 24 x y) (hx : a.eval x = .pointer (some ⟨B, 0, none⟩)) (hy : a.eval y = .agg (mk L)) (hL : L.length = 27) (hM : M.length = 27) (h : Blk w B 24 (mk M)) (hr : K (a.put op.dst undef) (put24 w B L)) :
    if c = true then Oper.wp Try.prog op a w K Q else E := by
  rw [if_pos hc]
  have ht : w.there B 0 (mk L).size := by
    have := blk_there (pre := []) (mid := ml M) (post := []) (by simpa [mk] using h)
    rw [ml_len, hM] at this
    rw [mk_size, hL]; exact this
  exact wp_store_mid 24 x y ho B 0 (mk L) hx hy ht (by rw [info24, mk_size, hL]) (all_oneCell_toArray (ml_one L)) (by simpa [put24, mk] using hr)
theorem do24 {w : World} {c : Bool} {E : Prop} (hc : c = true) (x : Operand) (ho : op.op = .load 24 x) (hx : a.eval x = .pointer (some ⟨B, 0, none⟩)) (hL : L.length = 27) (h : Blk w B 24 (mk L)) (hr : K (a.put op.dst (.agg (mk L))) w) :
    if c = true then Oper.wp Try.prog op a w K Q else E := by
  rw [if_pos hc]
  exact wp_load_mid 24 x ho B 0 hx (ml L) _ (blk_range (pre := []) (mid := ml L) (post := []) (by simpa [mk] using h)) Try.underlying24 rfl (by rw [info24, ml_len, hL]) hr
end
theorem grown_set (w : World) (b j : Nat) (v : Value) : w.grownBy (w.setCell ⟨b, j, none⟩ v) (some b) :=
  ⟨rfl, rfl, rfl, by simp, fun k _ hk => heap_setCell_other _ _ _ _ (fun e => hk (by rw [e]))⟩
theorem grown_setCells {B : Nat} : ∀ (vs : List Value) (o : Nat) (w : World), w.grownBy (w.setCells B o vs) (some B)
  | [], _, _ => ⟨rfl, rfl, rfl, Nat.le_refl _, fun _ _ _ => rfl⟩
  | v :: r, o, w => (grown_set w B o v).trans (grown_setCells r (o + 1) _)
theorem grown_put24 (w : World) (B : Nat) (L : List Int) : w.grownBy (put24 w B L) (some B) := grown_setCells _ _ _

/-- an edit as a value -/
structure Er where
  a : Int
  p1 : Option Addr
  o : Nat
  c1 : Nat
  p2 : Option Addr
  n : Nat
  c2 : Nat
def Er.cs (r : Er) : Array Value := #[.int .i64 r.a, .slice r.p1 r.o r.c1, .slice r.p2 r.n r.c2]
def Er.t (r : Er) : Int × Nat × Nat := (r.a, r.o, r.n)
/-- edits in memory -/
def Edr (W : World) (ao : Option Addr) (E : List Er) : Prop := ∀ (k : Nat) (r : Er), E[k]? = some r → ∃ g o, ao = some ⟨g, o, none⟩ ∧ W.cell? ⟨g, o + k * 3, none⟩ = some (.int .i64 r.a) ∧ W.cell? ⟨g, o + k * 3 + 1, none⟩ = some (.slice r.p1 r.o r.c1) ∧ W.cell? ⟨g, o + k * 3 + 2, none⟩ = some (.slice r.p2 r.n r.c2)
theorem cell_keep {W W' : World} {a : Addr} {v : Value} (h : W.cell? a = some v) (hb : Below W.heap.size W W') : W'.cell? a = some v := by rw [hb.cell (lt_of_cell h)]; exact h
theorem Edr.keep {W W' : World} {ao : Option Addr} {E : List Er} (h : Edr W ao E) (hb : Below W.heap.size W W') : Edr W' ao E := fun k r hk => by
  obtain ⟨g, o, h0, h1, h2, h3⟩ := h k r hk
  exact ⟨g, o, h0, cell_keep h1 hb, cell_keep h2 hb, cell_keep h3 hb⟩
/-- marks behind edits -/
def mvL (L : List Int) (T : List (Int × Nat × Nat)) : List Int := T.foldl (fun L t => shl L t.1 t.2.1 t.2.2) L
theorem mvL_len (L : List Int) (T : List (Int × Nat × Nat)) : (mvL L T).length = L.length := by
  unfold mvL
  induction T generalizing L with
  | nil => rfl
  | cons t T ih => rw [List.foldl_cons, ih, shl_len]
theorem mvL_append (L : List Int) (T U : List (Int × Nat × Nat)) : mvL L (T ++ U) = mvL (mvL L T) U := by unfold mvL; rw [List.foldl_append]
theorem mvL_take {L : List Int} {E : List Er} {i : Nat} {r : Er} (h : E[i]? = some r) : mvL L ((E.take (i + 1)).map Er.t) = shl (mvL L ((E.take i).map Er.t)) r.a r.o r.n := by
  obtain ⟨hi, rfl⟩ := List.getElem?_eq_some_iff.1 h
  rw [List.take_succ_eq_append_getElem hi, List.map_append, mvL_append]
  rfl
set_option maxHeartbeats 4000000 in
theorem move_any (L : List Int) (ao : Option Addr) (n c : Nat) (E : List Er) (w : World) (hL : L.length = 27) (HE : Hid (Edr w ao E)) (hn : E.length = n) (hb : n ≤ 140737488355328) :
    Calls Try.prog 21 #[.agg (mk L), .slice ao n c] w fun e w' => e = .returned (.agg (mk (mvL L (E.map Er.t)))) ∧ Below w.heap.size w w' := by
  have hz := z24
  generalize hW2 : (w.alloc (.cells (mk L) 24)).alloc (.cells (mk zm) 24) = W2
  have BE : Hid (Below w.heap.size w W2) := by subst hW2; exact bAlloc (bAlloc (Below.refl _ _) _) _
  have B1 : Hid (Blk W2 w.heap.size 24 (mk L)) := by subst hW2; exact (Blk.new w 24 _).keep (bAlloc (Below.refl _ _) _)
  have B2 : Hid (Blk W2 (w.heap.size + 1) 24 (mk zm)) := by
    subst hW2
    have := Blk.new (w.alloc (.cells (mk L) 24)) 24 (mk zm)
    rwa [World.size_alloc] at this
  have HN := Hid.mk' hn
  clear hn
  go_enter Try.func21, Try.ntmps21
  go_wp2_with fail
  clear hW2
  go_loopg [6, 9] n (fun m x6 x9 wx => ∃ i : Nat, x9 = .int .i64 (i : Int) ∧ i + m = n ∧ ∃ X, X.length = 27 ∧ Hid (X = mvL L ((E.take i).map Er.t)) ∧ Hid (Blk wx w.heap.size 24 (mk X)) ∧ Hid (Blk wx (w.heap.size + 1) 24 (mk zm)) ∧ Hid (Below w.heap.size w wx))
  case atStart => exact ⟨0, rfl, by omega, L, hL, rfl, B1.out, B2.out, BE.out⟩
  case round =>
    obtain ⟨i, rfl, him, X, hX, HX, K1, K2, KB⟩ := hrel
    obtain ⟨go, hgo⟩ : ∃ g, g = gk - 1 := ⟨_, rfl⟩
    clear B1 B2 BE
    by_cases hi : i < n
    · have hi' : (i : Int) < (n : Int) := by omega
      have hi0 : (0 : Int) ≤ (i : Int) := by omega
      obtain ⟨r, hr⟩ : ∃ r, E[i]? = some r := ⟨_, List.getElem?_eq_getElem (by have := HN.out; omega)⟩
      obtain ⟨g, o, rfl, z0, z1, z2⟩ := HE.out i r hr
      have s0 := KB.out.cell (lt_of_cell z0) ▸ z0
      have s1 := KB.out.cell (lt_of_cell z1) ▸ z1
      have s2 := KB.out.cell (lt_of_cell z2) ▸ z2
      have t0 : wr.cell? ⟨g, o + i * 3, none⟩ = some (.int .i64 r.a) := by rw [KB.out.cell (lt_of_cell z0)]; exact z0
      have t1 : wr.cell? ⟨g, o + i * 3 + 1, none⟩ = some (.slice r.p1 r.o r.c1) := by rw [KB.out.cell (lt_of_cell z1)]; exact z1
      have t2 : wr.cell? ⟨g, o + i * 3 + 2, none⟩ = some (.slice r.p2 r.n r.c2) := by rw [KB.out.cell (lt_of_cell z2)]; exact z2
      have HR := Hid.mk' hr
      obtain ⟨ra, rp1, ro, rc1, rp2, rn, rc2⟩ := r
      dsimp only at t0 t1 t2
      clear s0 s1 s2 z0 z1 z2 hr
      obtain ⟨w1, hw1⟩ : ∃ w1, w1 = wr.alloc (.cells #[.int .i64 ra, .slice rp1 ro rc1, .slice rp2 rn rc2] 42) := ⟨_, rfl⟩
      have B1 : Hid (Below wr.heap.size wr w1) := by unfold Hid; rw [hw1]; exact bAlloc (Below.refl _ _) _
      have Y0 : Hid (Blk w1 wr.heap.size 42 #[.int .i64 ra, .slice rp1 ro rc1, .slice rp2 rn rc2]) := by unfold Hid; rw [hw1]; exact Blk.new _ _ _
      go_upto_region 4 with fail
      rw [← hw1]
      clear hw1 t0 t1 t2
      have y0 : w1.cell? ⟨wr.heap.size, 0, none⟩ = some (.int .i64 ra) := Y0.out.cell rfl
      have y1 : w1.cell? ⟨wr.heap.size, 1, none⟩ = some (.slice rp1 ro rc1) := Y0.out.cell rfl
      have y2 : w1.cell? ⟨wr.heap.size, 2, none⟩ = some (.slice rp2 rn rc2) := Y0.out.cell rfl
      have J1 := Hid.mk' (K1.out.keep B1.out)
      have J2 := Hid.mk' (K2.out.keep B1.out)
      have JB := Hid.mk' (bT KB.out B1.out)
      have C := Hid.mk' (shift_any X ra rp1 rp2 ro rc1 rn rc2 w1 hX)
      have HS : Hid (shl X ra ro rn = mvL L ((E.take (i + 1)).map Er.t)) := by unfold Hid; rw [mvL_take HR.out, HX.out]
      have hS : Hid ((shl X ra ro rn).length = 27) := by unfold Hid; rw [shl_len]; exact hX
      generalize shl X ra ro rn = X' at *
      clear K1 K2 KB Y0 B1 HX HR
      go_wp2_with (first | refine wl_load24 (B := w.heap.size) (.tmp 2) rfl rfl rfl hX J1.out ?_ | fail)
      refine C.out.mono ?_
      rintro e w3 ⟨rfl, hb3⟩
      have G1 := Hid.mk' (J1.out.keep hb3)
      have G2 := Hid.mk' (J2.out.keep hb3)
      have GB := Hid.mk' (bT JB.out hb3)
      have hw2 : IntKind.i64.wrap ((i : Int) + 1) = ((i + 1 : Nat) : Int) := by rw [IntKind.wrap_i64]; omega
      clear hb3 J1 J2 JB C y0 y1 y2
      go_wp2_with (refine wl_store24 (B := w.heap.size) (L := X') (.tmp 2) (.tmp 15) rfl rfl rfl rfl hS.out hX G1.out ?_)
      go_roundg go
      case measure => omega
      case rel => exact ⟨i + 1, by go_num, by omega, X', hS.out, HS.out, G1.out.put24 hS.out hX, G2.out.put24_off (by omega) _, below_put24 GB.out (Nat.le_refl _) _⟩
    · have hi' : ¬ (i : Int) < (n : Int) := by omega
      have HF : Hid (X = mvL L (E.map Er.t)) := by
        have h1 := HX.out
        rw [List.take_of_length_le (by have := HN.out; omega)] at h1
        exact h1
      have hlv := Hid.mk' (ld24 hX (K2.out.put24 hX rfl))
      clear HX hgo
      go_wp2_with (first | refine wl_load24 (B := w.heap.size) (.tmp 2) rfl rfl rfl hX K1.out ?_ | refine wl_store24 (B := w.heap.size + 1) (.tmp 4) (.tmp 17) rfl rfl rfl rfl hX (by rfl) K2.out ?_)
      exact bodyPost_ret (v := .agg (mk X)) (by simp [results, Try.results21, asAddr, hlv.out]) rfl ⟨by rw [← HF.out], below_put24 KB.out (by omega) _⟩
set_option maxHeartbeats 4000000 in
set_option linter.unusedSimpArgs false in
theorem rshift_any (L : List Int) (a : Int) (p1 p2 : Option Addr) (o c1 n c2 : Nat) (w : World) (hL : L.length = 27) :
    Calls Try.prog 20 #[.agg (mk L), .agg #[.int .i64 a, .slice p1 o c1, .slice p2 n c2]] w fun e w' => e = .returned (.agg (mk (shl L a o n))) ∧ Below w.heap.size w w' := by
  have hz := z24
  generalize hW2 : ((w.alloc (.cells (mk L) 24)).alloc (.cells #[.int .i64 a, .slice p1 o c1, .slice p2 n c2] 42)).alloc (.cells (mk zm) 24) = W2
  have BE : Hid (Below w.heap.size w W2) := by subst hW2; exact bAlloc (bAlloc (bAlloc (Below.refl _ _) _) _) _
  have B1 : Hid (Blk W2 w.heap.size 24 (mk L)) := by subst hW2; exact (Blk.new w 24 _).keep (bAlloc (bAlloc (Below.refl _ _) _) _)
  have B2 : Hid (Blk W2 (w.heap.size + 1) 42 #[.int .i64 a, .slice p1 o c1, .slice p2 n c2]) := by
    subst hW2
    have := (Blk.new (w.alloc (.cells (mk L) 24)) 42 #[.int .i64 a, .slice p1 o c1, .slice p2 n c2]).keep (bAlloc (Below.refl _ _) (.cells (mk zm) 24))
    rwa [World.size_alloc] at this
  have B3 : Hid (Blk W2 (w.heap.size + 1 + 1) 24 (mk zm)) := by
    subst hW2
    have := Blk.new ((w.alloc (.cells (mk L) 24)).alloc (.cells #[.int .i64 a, .slice p1 o c1, .slice p2 n c2] 42)) 24 (mk zm)
    rwa [World.size_alloc, World.size_alloc] at this
  go_enter Try.func20, Try.ntmps20
  go_wp2_with fail
  clear hW2
  go_loopg [5, 6] 27 (fun m x5 x6 wx => ∃ i : Nat, x5 = .int .i64 (i : Int) ∧ i + m = 27 ∧ ∃ X, X.length = 27 ∧ Hid (X = eL (fun x => bhd x a o n) L i) ∧ Hid (Blk wx w.heap.size 24 (mk X)) ∧ Hid (Blk wx (w.heap.size + 1) 42 #[.int .i64 a, .slice p1 o c1, .slice p2 n c2]) ∧ Hid (Blk wx (w.heap.size + 1 + 1) 24 (mk zm)) ∧ Hid (Below w.heap.size w wx))
  case atStart => exact ⟨0, rfl, rfl, L, hL, by rw [eL_zero]; exact rfl, B1.out, B2.out, B3.out, BE.out⟩
  case round =>
    obtain ⟨i, rfl, him, X, hX, HX, K1, K2, K3, KB⟩ := hrel
    obtain ⟨go, hgo⟩ : ∃ g, g = gk - 1 := ⟨_, rfl⟩
    clear B1 B2 B3 BE
    by_cases hi : i < 27
    · have hi' : (i : Int) ≤ 26 := by omega
      obtain ⟨x, hx⟩ : ∃ x, L[i]? = some x := ⟨_, List.getElem?_eq_getElem (by omega)⟩
      have hxX : X[i]? = some x := by rw [HX.out]; exact eL_at _ L i x hx
      have C := Hid.mk' (at_any X i x wr hX hxX)
      have HS0 : Hid (X.set i (bhd x a o n) = eL (fun x => bhd x a o n) L (i + 1)) := by unfold Hid; rw [HX.out]; exact eL_set (fun x => bhd x a o n) L i x hx
      have hS0 : Hid ((X.set i (bhd x a o n)).length = 27) := by unfold Hid; simpa using hX
      have C40 := Hid.mk' (fun W => rbehind_any x a p1 p2 o c1 n c2 W)
      have C34 := Hid.mk' (fun W => with_any X i (bhd x a o n) W hX hi)
      clear hx hxX HX
      go_upto_region 5 with (first | refine wl_load24 (B := w.heap.size) (.tmp 2) rfl rfl rfl hX K1.out ?_ | (go_at_call 36; refine C.out.mono ?_; rintro e w3 ⟨rfl, hb3⟩; have J1 := Hid.mk' (K1.out.keep hb3); have J2 := Hid.mk' (K2.out.keep hb3); have J3 := Hid.mk' (K3.out.keep hb3); have JB := Hid.mk' (bT KB.out hb3); clear hb3 K1 K2 K3 KB C))
      generalize bhd x a o n = bx at *
      obtain ⟨X', hX'⟩ : ∃ X', X' = X.set i bx := ⟨_, rfl⟩
      rw [← hX'] at HS0 hS0 C34
      have HS := Hid.mk' HS0.out
      have hS := Hid.mk' hS0.out
      have XD : Hid (Blk w3.drew w.heap.size 24 (mk X)) := J1.out
      have YD : Hid (Blk w3.drew (w.heap.size + 1) 42 #[.int .i64 a, .slice p1 o c1, .slice p2 n c2]) := J2.out
      have UD : Hid (Blk w3.drew (w.heap.size + 1 + 1) 24 (mk zm)) := J3.out
      have LD : Hid (Below w.heap.size w w3.drew) := JB.out.drew
      clear J1 J2 J3 JB hX' HS0 hS0
      refine wp_region_held (S := fun w' => Blk w' (w.heap.size + 1) 42 #[.int .i64 a, .slice p1 o c1, .slice p2 n c2]) (by kernel_rfl) ?_
      change wpAnyH _ _ _ _ _ _ _ _ (World.drew _)
      generalize w3.drew = V3 at *
      refine wpAnyH_take (i := 1) (v := .int .i64 (i : Int)) rfl (by kernel_rfl) (by kernel_rfl) (by kernel_rfl) (fun _ _ _ h => h) (Yields.yieldsIf (Or.inl ⟨by rfl, fun w => by go_simp⟩)) YD.out ?_
      try simp only [Act.put, List.getElem_toArray, List.getElem_cons_zero, List.getElem_cons_succ, List.setIfInBounds_toArray, List.set_cons_zero, List.set_cons_succ]
      refine wpAnyH_take (i := 2) (v := .int .i64 x) rfl (by kernel_rfl) (by kernel_rfl) (by kernel_rfl) (fun _ _ _ h => h) (Yields.yieldsIf (Or.inl ⟨by rfl, fun w => by go_simp⟩)) YD.out ?_
      try simp only [Act.put, List.getElem_toArray, List.getElem_cons_zero, List.getElem_cons_succ, List.setIfInBounds_toArray, List.set_cons_zero, List.set_cons_succ]
      refine wpAnyH_take (i := 3) (v := .agg #[.int .i64 a, .slice p1 o c1, .slice p2 n c2]) rfl (by kernel_rfl) (by kernel_rfl) (by kernel_rfl) (fun _ _ _ h => h) (Or.inl ⟨by rfl, fun w9 h9 => by have h5 := h9.cell (j := 0) rfl; have h6 := h9.cell (j := 1) rfl; have h7 := h9.cell (j := 2) rfl; go_simp⟩) YD.out ?_
      try simp only [Act.put, List.getElem_toArray, List.getElem_cons_zero, List.getElem_cons_succ, List.setIfInBounds_toArray, List.set_cons_zero, List.set_cons_succ]
      refine wpAnyH_all (rs := [0, 4]) (by kernel_rfl) (by simp) (AllH.cons rfl (fun K hK => ?_) (AllH.cons rfl (fun K hK => ?_) AllH.nil))
      · skip
        refine do24 rfl (.tmp 2) rfl rfl hX XD.out ?_
        refine hK _ _ ⟨YD.out, ?_⟩
        clear hK K
        try simp only [Act.put, List.getElem_toArray, List.getElem_cons_zero, List.getElem_cons_succ, List.setIfInBounds_toArray, List.set_cons_zero, List.set_cons_succ]
        refine wpAnyH_all (rs := [4]) (by kernel_rfl) (by simp) (AllH.cons rfl (fun K hK => ?_) AllH.nil)
        go_simp
        refine (C40.out V3).mono ?_
        rintro e w4 ⟨rfl, hb9⟩
        have X4 := Hid.mk' (XD.out.keep hb9)
        have Y4 := Hid.mk' (YD.out.keep hb9)
        have U4 := Hid.mk' (UD.out.keep hb9)
        have L4 := Hid.mk' (bT LD.out hb9)
        clear hb9
        dsimp only
        refine hK _ _ ⟨Y4.out, ?_⟩
        clear hK K
        try simp only [Act.put, List.getElem_toArray, List.getElem_cons_zero, List.getElem_cons_succ, List.setIfInBounds_toArray, List.set_cons_zero, List.set_cons_succ]
        refine wpAnyH_all (rs := [5]) (by kernel_rfl) (by simp) (AllH.cons rfl (fun K hK => ?_) AllH.nil)
        go_simp
        refine (C34.out w4).mono ?_
        rintro e w5 ⟨rfl, hb9⟩
        have X5 := Hid.mk' (X4.out.keep hb9)
        have Y5 := Hid.mk' (Y4.out.keep hb9)
        have U5 := Hid.mk' (U4.out.keep hb9)
        have L5 := Hid.mk' (bT L4.out hb9)
        clear hb9
        dsimp only
        refine hK _ _ ⟨Y5.out, ?_⟩
        clear hK K
        try simp only [Act.put, List.getElem_toArray, List.getElem_cons_zero, List.getElem_cons_succ, List.setIfInBounds_toArray, List.set_cons_zero, List.set_cons_succ]
        refine wpAnyH_all (rs := [6]) (by kernel_rfl) (by simp) (AllH.cons rfl (fun K hK => ?_) AllH.nil)
        refine st24 rfl (.tmp 2) (.tmp 19) rfl rfl rfl hS.out hX X5.out ?_
        have Y6 := Hid.mk' (Y5.out.put24_off (B := w.heap.size) (by omega) X')
        refine hK _ _ ⟨Y6.out, ?_⟩
        clear hK K
        try simp only [Act.put, List.getElem_toArray, List.getElem_cons_zero, List.getElem_cons_succ, List.setIfInBounds_toArray, List.set_cons_zero, List.set_cons_succ]
        refine wpAnyH_done (by kernel_rfl) ?_ _
        go_wp2
        go_roundg go
        case measure => omega
        case rel => exact ⟨i + 1, by go_num, by omega, X', hS.out, HS.out, X5.out.put24 hS.out hX, Hid.mk' (Y5.out.put24_off (by omega) _), U5.out.put24_off (by omega) _, below_put24 L5.out (Nat.le_refl _) _⟩
      · skip
        go_simp
        refine (C40.out V3).mono ?_
        rintro e w4 ⟨rfl, hb9⟩
        have X4 := Hid.mk' (XD.out.keep hb9)
        have Y4 := Hid.mk' (YD.out.keep hb9)
        have U4 := Hid.mk' (UD.out.keep hb9)
        have L4 := Hid.mk' (bT LD.out hb9)
        clear hb9
        dsimp only
        refine hK _ _ ⟨Y4.out, ?_⟩
        clear hK K
        try simp only [Act.put, List.getElem_toArray, List.getElem_cons_zero, List.getElem_cons_succ, List.setIfInBounds_toArray, List.set_cons_zero, List.set_cons_succ]
        refine wpAnyH_all (rs := [0]) (by kernel_rfl) (by simp) (AllH.cons rfl (fun K hK => ?_) AllH.nil)
        refine do24 rfl (.tmp 2) rfl rfl hX X4.out ?_
        refine hK _ _ ⟨Y4.out, ?_⟩
        clear hK K
        try simp only [Act.put, List.getElem_toArray, List.getElem_cons_zero, List.getElem_cons_succ, List.setIfInBounds_toArray, List.set_cons_zero, List.set_cons_succ]
        refine wpAnyH_all (rs := [5]) (by kernel_rfl) (by simp) (AllH.cons rfl (fun K hK => ?_) AllH.nil)
        go_simp
        refine (C34.out w4).mono ?_
        rintro e w5 ⟨rfl, hb9⟩
        have X5 := Hid.mk' (X4.out.keep hb9)
        have Y5 := Hid.mk' (Y4.out.keep hb9)
        have U5 := Hid.mk' (U4.out.keep hb9)
        have L5 := Hid.mk' (bT L4.out hb9)
        clear hb9
        dsimp only
        refine hK _ _ ⟨Y5.out, ?_⟩
        clear hK K
        try simp only [Act.put, List.getElem_toArray, List.getElem_cons_zero, List.getElem_cons_succ, List.setIfInBounds_toArray, List.set_cons_zero, List.set_cons_succ]
        refine wpAnyH_all (rs := [6]) (by kernel_rfl) (by simp) (AllH.cons rfl (fun K hK => ?_) AllH.nil)
        refine st24 rfl (.tmp 2) (.tmp 19) rfl rfl rfl hS.out hX X5.out ?_
        have Y6 := Hid.mk' (Y5.out.put24_off (B := w.heap.size) (by omega) X')
        refine hK _ _ ⟨Y6.out, ?_⟩
        clear hK K
        try simp only [Act.put, List.getElem_toArray, List.getElem_cons_zero, List.getElem_cons_succ, List.setIfInBounds_toArray, List.set_cons_zero, List.set_cons_succ]
        refine wpAnyH_done (by kernel_rfl) ?_ _
        go_wp2
        go_roundg go
        case measure => omega
        case rel => exact ⟨i + 1, by go_num, by omega, X', hS.out, HS.out, X5.out.put24 hS.out hX, Hid.mk' (Y5.out.put24_off (by omega) _), U5.out.put24_off (by omega) _, below_put24 L5.out (Nat.le_refl _) _⟩
    · have hi' : ¬ (i : Int) ≤ 26 := by omega
      have HF : Hid (X = shl L a o n) := by
        have h1 := HX.out
        rw [eL_all _ _ _ (by omega)] at h1
        exact h1
      have hlv := Hid.mk' (ld24 hX (K3.out.put24 hX rfl))
      clear HX hgo
      go_wp2_with (first | refine wl_load24 (B := w.heap.size) (.tmp 2) rfl rfl rfl hX K1.out ?_ | refine wl_store24 (B := w.heap.size + 1 + 1) (.tmp 4) (.tmp 20) rfl rfl rfl rfl hX (by rfl) K3.out ?_)
      exact bodyPost_ret (v := .agg (mk X)) (by simp [results, Try.results20, asAddr, hlv.out]) rfl ⟨by rw [← HF.out], below_put24 KB.out (by omega) _⟩
end Go.Proofs.Ytdoheblkhnmmiaa
