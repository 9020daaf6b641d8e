/- The law's copied: edits in memory of their own, with marks behind. -/
import Derived.Test.YthklmdnamkjgmaaAlv
namespace Go.Proofs.Ythklmdnamkjgmaa
open Go.RowKit

set_option maxRecDepth 8000
def Er.m1 (r : Er) : Rw := ⟨5, 1, .slice r.p1 (r.o + 2) r.c1, r.o + 2, bv (r.O ++ [161, 162])⟩
def Er.m2 (r : Er) : Rw := ⟨5, 1, .slice r.p2 (r.n + 2) r.c2, r.n + 2, bv (r.N ++ [163, 164])⟩
/-- the texts' rows, with their marks -/
def rowsM (F : List Er) : List Rw := F.flatMap fun r => [r.m1, r.m2]
theorem rowsM_snoc (F : List Er) (r : Er) : rowsM (F ++ [r]) = rowsM F ++ [r.m1] ++ [r.m2] := by simp [rowsM]
theorem rowsM_at {F : List Er} {k : Nat} {r : Er} (h : F[k]? = some r) : (rowsM F)[k * 2]? = some r.m1 ∧ (rowsM F)[k * 2 + 1]? = some r.m2 := by
  induction F generalizing k with
  | nil => simp at h
  | cons x F ih =>
    cases k with
    | zero => simp at h; subst h; exact ⟨rfl, rfl⟩
    | succ k =>
      rw [List.getElem?_cons_succ] at h
      obtain ⟨h1, h2⟩ := ih h
      have e : ∀ j, (rowsM (x :: F))[(k + 1) * 2 + j]? = (rowsM F)[k * 2 + j]? := fun j => by
        show ([x.m1, x.m2] ++ rowsM F)[(k + 1) * 2 + j]? = _
        rw [List.getElem?_append_right (by simp; omega)]
        congr 1; simp; omega
      exact ⟨(e 0).trans h1, (e 1).trans h2⟩
theorem rowsE_in {F : List Er} {i : Nat} {x : Rw} (h : (rowsE F)[i]? = some x) : ∃ (k : Nat) (r : Er), F[k]? = some r ∧ ((i = k * 2 ∧ x = r.r1) ∨ (i = k * 2 + 1 ∧ x = r.r2)) := by
  have hl := (List.getElem?_eq_some_iff.1 h).1
  rw [rowsE_len] at hl
  obtain ⟨r, hr⟩ : ∃ r, F[i / 2]? = some r := ⟨_, List.getElem?_eq_getElem (by omega)⟩
  obtain ⟨h1, h2⟩ := rowsE_at hr
  refine ⟨i / 2, r, hr, ?_⟩
  rcases Nat.mod_two_eq_zero_or_one i with e | e
  · left
    have e2 : i = i / 2 * 2 := by omega
    rw [← e2, h] at h1
    exact ⟨e2, Option.some.inj h1⟩
  · right
    have e2 : i = i / 2 * 2 + 1 := by omega
    rw [← e2, h] at h2
    exact ⟨e2, Option.some.inj h2⟩
theorem ecs_nil : ecs [] = [] := rfl
/-- a list of edits of one's own, with marks behind the texts, and k edits T behind the list -/
structure Mst (w W : World) (v : Value) (T F : List Er) : Prop where
  rws : Rws w W (⟨38, 3, v, F.length + T.length, ecs F ++ ecs T⟩ :: rowsM F)
  bnd : ∀ r ∈ F, r.o ≤ 140737488355328 ∧ r.n ≤ 140737488355328
theorem Mst.keep {w W W' : World} {v : Value} {T F : List Er} (h : Mst w W v T F) (hb : Below W.heap.size W W') : Mst w W' v T F := ⟨h.rws.keep hb, h.bnd⟩
theorem Mst.own {w W : World} {v : Value} {T F : List Er} (h : Mst w W v T F) : W.ownsRow w.heap.size 38 3 v (F.length + T.length) (ecs F ++ ecs T) := h.rws.own 0 _ rfl
theorem Mst.bel {w W : World} {v : Value} {T F : List Er} (h : Mst w W v T F) : Below w.heap.size w W := h.rws.bel
/-- an edit whose texts are rows of its own, with marks -/
structure Om (W : World) (base : Nat) (r : Er) : Prop where
  t1 : W.ownsRow base 5 1 (.slice r.p1 (r.o + 2) r.c1) (r.o + 2) (bv (r.O ++ [161, 162]))
  t2 : W.ownsRow base 5 1 (.slice r.p2 (r.n + 2) r.c2) (r.n + 2) (bv (r.N ++ [163, 164]))
  far : Far (.slice r.p1 (r.o + 2) r.c1) (.slice r.p2 (r.n + 2) r.c2)
  b1 : r.o ≤ 140737488355328
  b2 : r.n ≤ 140737488355328
theorem Om.keep {W W' : World} {base : Nat} {r : Er} (h : Om W base r) (hb : Below W.heap.size W W') : Om W' base r := ⟨own_keep h.t1 hb, own_keep h.t2 hb, h.far, h.b1, h.b2⟩
theorem Mst.snoc {w W W' W'' : World} {v v' : Value} {F : List Er} {r : Er} (h : Mst w W v [] F) (hb : Below W.heap.size W W') (ho : Om W' W.heap.size r) (hg : W'.grownBy W'' v.ownBlock) (hv : W''.ownsRow w.heap.size 38 3 v' (F.length + 1) (ecs F ++ r.cs.toList))
    (hf : v'.ownBlock = v.ownBlock ∨ ∃ q, v'.ownBlock = some q ∧ W'.heap.size ≤ q) : Mst w W'' v' [] (F ++ [r]) := by
  have h2 := h.rws.new2 hb ho.t1 ho.t2 ho.far.ne
  have h3 := h2.grow (i := 0) (r := ⟨38, 3, v, F.length + 0, ecs F ++ []⟩) rfl hg hv hf
  refine ⟨?_, fun x hx => ?_⟩
  · rw [rowsM_snoc, ecs_snoc, List.length_append, show ecs [] = [] from rfl, List.append_nil]
    exact h3
  · rcases List.mem_append.1 hx with hx | hx
    · exact h.bnd x hx
    · simp at hx; subst hx; exact ⟨ho.b1, ho.b2⟩
theorem Mst.tail {w W W' W'' : World} {v v' : Value} {T F : List Er} (h : Mst w W v [] F) (hb : Below W.heap.size W W') (hg : W'.grownBy W'' v.ownBlock) (hv : W''.ownsRow w.heap.size 38 3 v' (F.length + T.length) (ecs F ++ ecs T))
    (hf : v'.ownBlock = v.ownBlock ∨ ∃ q, v'.ownBlock = some q ∧ W'.heap.size ≤ q) : Mst w W'' v' T F :=
  ⟨(h.rws.keep hb).grow (i := 0) (r := ⟨38, 3, v, F.length + 0, ecs F ++ []⟩) rfl hg hv hf, h.bnd⟩
theorem some_of {W : World} {base n c : Nat} {p : Option Addr} {xs : List Value} (h : W.ownsRow base 5 1 (.slice p (n + 2) c) (n + 2) xs) : ∃ g, p = some ⟨g, 0, none⟩ ∧ n + 2 ≤ c := by
  obtain ⟨g, cap, e, h1, _⟩ := own_some h (by omega)
  simp at e
  obtain ⟨rfl, rfl⟩ := e
  exact ⟨g, rfl, h1⟩
theorem pre_of {W : World} {base n c : Nat} {p : Option Addr} {l m : List UInt8} (h : W.ownsRow base 5 1 (.slice p (n + 2) c) (n + 2) (bv (l ++ m))) (hl : m.length = 2) : W.ownsRow base 5 1 (.slice p n c) n (bv l) := by
  obtain ⟨g, rfl, _⟩ := some_of h
  have h1 := h.1
  rw [bv_length, List.length_append] at h1
  rw [bv_append] at h
  exact own_prefix h (by rw [bv_length]; omega) (by omega)
theorem blk_of (p : Option Addr) (n c : Nat) : (Value.slice p (n + 2) c).ownBlock = (Value.slice p n c).ownBlock := by
  cases p <;> rfl
/-- without the marks -/
theorem Mst.lst {w W : World} {g c : Nat} {T F : List Er} (h : Mst w W (.slice (some ⟨g, 0, none⟩) (F.length + T.length) c) T F) : Lst w W (.slice (some ⟨g, 0, none⟩) F.length c) F := by
  have hown : ∀ (i : Nat) (x : Rw), ((⟨38, 3, .slice (some ⟨g, 0, none⟩) F.length c, F.length, ecs F⟩ : Rw) :: rowsE F)[i]? = some x → W.ownsRow w.heap.size x.t x.s x.v x.n x.xs ∧ ∃ y, ((⟨38, 3, .slice (some ⟨g, 0, none⟩) (F.length + T.length) c, F.length + T.length, ecs F ++ ecs T⟩ : Rw) :: rowsM F)[i]? = some y ∧ y.v.ownBlock = x.v.ownBlock := fun i x hi => by
    cases i with
    | zero =>
      simp at hi; subst hi
      exact ⟨own_prefix h.own (by rw [ecs_len]) (by omega), _, rfl, rfl⟩
    | succ i =>
      rw [List.getElem?_cons_succ] at hi ⊢
      obtain ⟨k, r, hr, ⟨rfl, rfl⟩ | ⟨rfl, rfl⟩⟩ := rowsE_in hi
      · obtain ⟨h1, _⟩ := rowsM_at hr
        exact ⟨pre_of (h.rws.own (k * 2 + 1) _ h1) rfl, _, h1, blk_of _ _ _⟩
      · obtain ⟨_, h1⟩ := rowsM_at hr
        exact ⟨pre_of (h.rws.own (k * 2 + 1 + 1) _ h1) rfl, _, h1, blk_of _ _ _⟩
  refine ⟨⟨fun i x hi => (hown i x hi).1, fun i j p q hij hi hj => ?_, h.bel⟩, h.bnd⟩
  obtain ⟨_, y, hy, ey⟩ := hown i p hi
  obtain ⟨_, z, hz, ez⟩ := hown j q hj
  intro g h1 h2
  exact h.rws.far i j y z hij hy hz g (by rw [ey]; exact h1) (by rw [ez]; exact h2)
/-- append of edits to a list of one's own -/
theorem app_eds {w : World} (base : Nat) (v : Value) (n m : Nat) (xs : List Value) (hown : w.ownsRow base 38 3 v n xs) (ad : Addr) (R : List Er) (hm : R.length = m) (hc : ∀ j u, (ecs R)[j]? = some u → w.cell? (ad.add j) = some u) (hb : (n + m) * 56 ≤ 140737488355328) (hbase : base ≤ w.heap.size) :
    ∃ v' w', (∀ ty c, (Builtin.append_ #[23, 23] ty #[v, .slice (some ad) m c]).run Try.prog w = .ok v' w') ∧ w'.ownsRow base 38 3 v' (n + m) (xs ++ ecs R) ∧ w.grownBy w' v.ownBlock ∧ (v'.ownBlock = v.ownBlock ∨ ∃ q, v'.ownBlock = some q ∧ w.heap.size ≤ q) := by
  obtain ⟨i8, hi8, hz8, hs8, hb8⟩ := info_parts info38
  obtain ⟨v', w', hr, h2, h3, h4, h5⟩ := run_append_own_at (P := Try.prog) w base 23 23 38 i8 _ 3 56 Try.underlying23 hi8 hz8 hs8 hb8 rfl (by decide) v n xs hown ad m m (ecs R) (by rw [ecs_len, hm]) hc (ecs_one R) (by unfold maxLen; omega) (by omega) hbase
  refine ⟨v', w', fun ty c => hr, h2, h3, ?_⟩
  rcases h5 with e | e
  · exact .inl e
  · exact .inr ⟨_, e, Nat.le_refl _⟩
theorem so_e (g n c hi : Nat) {z : Int} (hhi : hi ≤ c) (hz : z = (hi : Int)) : ∀ W, (Instr.sliceAt 23 (.slice (some ⟨g, 0, none⟩) n c) none (some (.int .i64 z)) none).run Try.prog W = .ok (.slice (some ⟨g, 0, none⟩) hi c) W := fun W => by
  subst hz
  rw [run_sliceAt_slice W 23 _ _ _ _ und23, run_slice_h W 23 _ n c und23 .i64 (hi : Int) (by omega) (by omega), elem23, size38]
  show Result.ok (sliced (some ⟨g, 0, none⟩) 0 (hi : Int).toNat c 3) W = _
  unfold sliced
  simp [Addr.add]
/-- the marks behind the list -/
def mkE : List Er := [⟨-77, none, 0, 0, [], none, 0, 0, []⟩, ⟨-78, none, 0, 0, [], none, 0, 0, []⟩]
/-- copied edits -/
def MstP (D : List Ed) (en : Nat) (w : World) (e : Ending) (w' : World) : Prop := ∃ g c F, e = .returned (.slice (some ⟨g, 0, none⟩) en c) ∧ F.length = en ∧ en + 2 ≤ c ∧ F.map Er.d = D ∧ Mst w w' (.slice (some ⟨g, 0, none⟩) (F.length + 2) c) mkE F
set_option maxHeartbeats 8000000 in
set_option linter.unusedSimpArgs false in
theorem copied_any (eo : Option Addr) (en ec : Nat) (E : List Er) (w : World) (HE : Hid (Edz w eo E)) (hn : E.length = en) (heb : en ≤ 2000) :
    Calls Try.prog 26 #[.slice eo en ec] w fun e w' => MstP (E.map Er.d) en w e w' := by
  obtain ⟨nn, hnn⟩ : ∃ nn, nn = en + 2 := ⟨_, rfl⟩
  obtain ⟨CS, hCS, hmk⟩ := run_roomE nn (by omega)
  have HN := Hid.mk' hn
  have hw0 : IntKind.i64.wrap ((en : Int) + 2) = (nn : Int) := by rw [IntKind.wrap_i64]; omega
  have hP1 := World.ownsRow_made (base := w.heap.size) (e := 38) (size := 3) w CS nn (Nat.le_refl _) (by unfold maxLen; omega) hCS
  have hr1 := (Rws.nil w).new (bAlloc (Below.refl _ w) (.cells CS 38)) hP1
  have HM : Hid (Mst w (w.alloc (.cells CS 38)) (.slice (some ⟨w.heap.size, 0, none⟩) 0 nn) [] []) := ⟨hr1, fun r hr => by simp at hr⟩
  have HNN := Hid.mk' hnn
  clear hn hP1 hr1 hnn hCS
  go_enter Try.func26, Try.ntmps26
  go_wp2_with fail
  clear hmk
  go_loopg [3, 4, 5, 6] en (fun m x3 x4 x5 x6 wx => ∃ (k : Nat) (F : List Er), x4 = .int .i64 (k : Int) ∧ k + m = en ∧ Hid (F.map Er.d = (E.map Er.d).take k) ∧ Hid (F.length = k) ∧ Hid (Mst w wx x3 [] F))
  case atStart => exact ⟨0, [], rfl, by omega, by unfold Hid; simp, rfl, HM.out⟩
  case round =>
    obtain ⟨k, F, rfl, him, HF, HL, KL⟩ := hrel
    obtain ⟨go, hgo⟩ : ∃ g, g = gk - 1 := ⟨_, rfl⟩
    by_cases hi : k < en
    · have hj0 : (0 : Int) ≤ (k : Int) := by omega
      have hj1 : (k : Int) < (en : Int) := by omega
      obtain ⟨r, hr⟩ : ∃ r, E[k]? = some r := ⟨_, List.getElem?_eq_getElem (by have := HN.out; omega)⟩
      have hit := map_take hr
      obtain ⟨g, o, rfl, h3⟩ := HE.out.row.ed3 hr
      have hEt0 := HE.out.txs k r hr
      have HG : Hid (g < w.heap.size) := h3.lt
      have h4 := h3.keep KL.out.bel
      have hEt1 := hEt0.keep KL.out.bel
      obtain ⟨ra, rp1, ro, rc1, rO, rp2, rn, rc2, rN⟩ := r
      have T1 : Hid (Tx wr rp1 ro rc1 rO) := hEt1.t1
      have T2 : Hid (Tx wr rp2 rn rc2 rN) := hEt1.t2
      have BO : Hid (ro ≤ 140737488355328 ∧ rn ≤ 140737488355328) := ⟨hEt0.b1, hEt0.b2⟩
      have KE : Hid (Ed3 wr g (o + k * 3) ra rp1 ro rc1 rp2 rn rc2) := h4
      have HIT : Hid ((E.map Er.d).take (k + 1) = (E.map Er.d).take k ++ [⟨ra, rO, rN⟩]) := hit
      have hw1 : IntKind.i64.wrap ((k : Int) + 1) = ((k + 1 : Nat) : Int) := by rw [IntKind.wrap_i64]; omega
      have Ln1 : Hid (rO.length = ro) := T1.out.len
      have Ln2 : Hid (rN.length = rn) := T2.out.len
      clear hr h3 h4 hEt0 hEt1 hit
      have t1 : (wr.alloc (.cells #[] 5)).cell? ⟨g, o + k * 3 + 1, none⟩ = some (.slice rp1 ro rc1) := cell_keep KE.out.e1 (bAlloc (Below.refl _ _) _)
      go_wp2_with (at_builtin; refine append_big rfl (.tmp 18) (.tmp 23) rfl wr.heap.size (.slice (some ⟨wr.heap.size, 0, none⟩) 0 0) 0 [] rfl (World.ownsRow_made wr #[] 0 (Nat.le_refl _) (Nat.zero_le _) rfl) (.slice rp1 ro rc1) ro (bv rO) rfl ((T1.out.keep (bAlloc (Below.refl _ _) _)).srv) (by rw [bv_length]; exact Ln1.out) (bv_one _) (by have := BO.out; omega) (by have := BO.out; omega) (by simp) ?_)
      intro v1 w1 hown hgrow _
      have OA : Hid (w1.ownsRow wr.heap.size 5 1 v1 ro (bv rO)) := by unfold Hid; simpa using hown
      have BA : Hid (Below wr.heap.size wr w1) := ((Below.refl _ wr).alloc (Nat.le_refl _) _).grown hgrow (by simp) (by intro k hk; simp [Value.ownBlock] at hk; omega)
      clear hown hgrow t1
      have O5 : Hid ((w1.alloc (.cells (bv [161, 162]).toArray 5)).ownsRow wr.heap.size 5 1 v1 ro (bv rO)) := own_keep OA.out (bAlloc (Below.refl _ _) _)
      have C5 : Hid (Srv (w1.alloc (.cells (bv [161, 162]).toArray 5)) (.slice (some ⟨w1.heap.size, 0, none⟩) 2 2) 2 (bv [161, 162])) := .inr ⟨_, 2, rfl, fun j u hj => lit_cells w1 _ 5 j u hj⟩
      have Z5 : Hid (wr.heap.size ≤ (w1.alloc (.cells (bv [161, 162]).toArray 5)).heap.size) := by have := BA.out.size; unfold Hid; simp; omega
      go_wp2_with (at_builtin; refine append_big rfl (.tmp 24) (.tmp 25) rfl wr.heap.size v1 ro (bv rO) rfl O5.out (.slice (some ⟨w1.heap.size, 0, none⟩) 2 2) 2 (bv [161, 162]) rfl C5.out rfl (bv_one _) (by have := BO.out; omega) (by omega) Z5.out ?_)
      intro v2 w2 hown hgrow _
      have O2 : Hid (w2.ownsRow wr.heap.size 5 1 v2 (ro + 2) (bv (rO ++ [161, 162]))) := by unfold Hid; rw [bv_append]; exact hown
      have B2 : Hid (Below wr.heap.size wr w2) := (bAlloc BA.out _).grown hgrow (by have := BA.out.size; simp; omega) (fun k hk => (OA.out.lt k hk).1)
      clear hown hgrow OA BA O5 C5 Z5
      have t2 : (w2.alloc (.cells #[] 5)).cell? ⟨g, o + k * 3 + 2, none⟩ = some (.slice rp2 rn rc2) := cell_keep (KE.out.keep B2.out).e2 (bAlloc (Below.refl _ _) _)
      go_wp2_with (at_builtin; refine append_big rfl (.tmp 27) (.tmp 32) rfl w2.heap.size (.slice (some ⟨w2.heap.size, 0, none⟩) 0 0) 0 [] rfl (World.ownsRow_made w2 #[] 0 (Nat.le_refl _) (Nat.zero_le _) rfl) (.slice rp2 rn rc2) rn (bv rN) rfl (((T2.out.keep B2.out).keep (bAlloc (Below.refl _ _) _)).srv) (by rw [bv_length]; exact Ln2.out) (bv_one _) (by have := BO.out; omega) (by have := BO.out; omega) (by simp) ?_)
      intro v3 w3 hown hgrow _
      have OA : Hid (w3.ownsRow w2.heap.size 5 1 v3 rn (bv rN)) := by unfold Hid; simpa using hown
      have BA : Hid (Below w2.heap.size w2 w3) := ((Below.refl _ w2).alloc (Nat.le_refl _) _).grown hgrow (by simp) (by intro k hk; simp [Value.ownBlock] at hk; omega)
      clear hown hgrow 
      have O5 : Hid ((w3.alloc (.cells (bv [163, 164]).toArray 5)).ownsRow w2.heap.size 5 1 v3 rn (bv rN)) := own_keep OA.out (bAlloc (Below.refl _ _) _)
      have C5 : Hid (Srv (w3.alloc (.cells (bv [163, 164]).toArray 5)) (.slice (some ⟨w3.heap.size, 0, none⟩) 2 2) 2 (bv [163, 164])) := .inr ⟨_, 2, rfl, fun j u hj => lit_cells w3 _ 5 j u hj⟩
      have Z5 : Hid (w2.heap.size ≤ (w3.alloc (.cells (bv [163, 164]).toArray 5)).heap.size) := by have := BA.out.size; unfold Hid; simp; omega
      go_wp2_with (at_builtin; refine append_big rfl (.tmp 33) (.tmp 34) rfl w2.heap.size v3 rn (bv rN) rfl O5.out (.slice (some ⟨w3.heap.size, 0, none⟩) 2 2) 2 (bv [163, 164]) rfl C5.out rfl (bv_one _) (by have := BO.out; omega) (by omega) Z5.out ?_)
      intro v4 w4 hown hgrow _
      have O4 : Hid (w4.ownsRow w2.heap.size 5 1 v4 (rn + 2) (bv (rN ++ [163, 164]))) := by unfold Hid; rw [bv_append]; exact hown
      have B4 : Hid (Below w2.heap.size w2 w4) := (bAlloc BA.out _).grown hgrow (by have := BA.out.size; simp; omega) (fun k hk => (OA.out.lt k hk).1)
      clear hown hgrow OA BA O5 C5 Z5
      obtain ⟨g1, q1, e1, hq1, -⟩ := own_some O2.out (by omega)
      obtain ⟨g2, q2, e2, hq2, -⟩ := own_some O4.out (by omega)
      subst e1 e2
      have s1 := so_h g1 (ro + 2) q1 ro (z := (ro : Int)) (by omega) rfl
      have s2 := so_h g2 (rn + 2) q2 rn (z := (rn : Int)) (by omega) rfl
      have OM : Hid (Om w4.drew wr.heap.size ⟨ra, some ⟨g1, 0, none⟩, ro, q1, rO, some ⟨g2, 0, none⟩, rn, q2, rN⟩) := ⟨own_keep O2.out (bT B4.out (Below.refl _ _).drew), own_keep (own_lower O4.out B2.out.size) (Below.refl _ _).drew, far_new O2.out O4.out, BO.out.1, BO.out.2⟩
      have BV : Hid (Below wr.heap.size wr w4.drew) := bT (bT B2.out B4.out) (Below.refl _ _).drew
      have KF : Hid (Ed3 w4.drew g (o + k * 3) ra rp1 ro rc1 rp2 rn rc2) := KE.out.keep BV.out
      clear O2 O4 B2 B4 T1 T2 hq1 hq2 Ln1 Ln2 KE t2
      go_upto_region 7 with fail
      refine wp_region_held (S := fun w' => Ed3 w' g (o + k * 3) ra rp1 ro rc1 rp2 rn rc2) (by kernel_rfl) ?_
      change wpAnyH _ _ _ _ _ _ _ _ (World.drew _)
      generalize w4.drew = V5 at *
      refine wpAnyH_take (i := 0) (v := u3) rfl (by kernel_rfl) (by kernel_rfl) (by kernel_rfl) (fun _ _ _ h => h) (Yields.yieldsIf (Or.inl ⟨by rfl, fun w => by go_simp⟩)) KF.out ?_
      try simp only [Act.put, List.getElem_toArray, List.getElem_cons_zero, List.getElem_cons_succ, List.setIfInBounds_toArray, List.set_cons_zero, List.set_cons_succ]
      refine wpAnyH_take (i := 1) (v := .slice (some ⟨g, o, none⟩) en ec) rfl (by kernel_rfl) (by kernel_rfl) (by kernel_rfl) (fun _ _ _ h => h) (Yields.yieldsIf (Or.inl ⟨by rfl, fun w => by go_simp⟩)) KF.out ?_
      try simp only [Act.put, List.getElem_toArray, List.getElem_cons_zero, List.getElem_cons_succ, List.setIfInBounds_toArray, List.set_cons_zero, List.set_cons_succ]
      refine wpAnyH_take (i := 2) (v := .int .i64 (k : Int)) rfl (by kernel_rfl) (by kernel_rfl) (by kernel_rfl) (fun _ _ _ h => h) (Yields.yieldsIf (Or.inl ⟨by rfl, fun w => by go_simp⟩)) KF.out ?_
      try simp only [Act.put, List.getElem_toArray, List.getElem_cons_zero, List.getElem_cons_succ, List.setIfInBounds_toArray, List.set_cons_zero, List.set_cons_succ]
      refine wpAnyH_take (i := 3) (v := .pointer (some ⟨g, o + k * 3, none⟩)) rfl (by kernel_rfl) (by kernel_rfl) (by kernel_rfl) (fun _ _ _ h => h) (Yields.yieldsIf (Or.inl ⟨by rfl, fun w => by go_simp⟩)) KF.out ?_
      try simp only [Act.put, List.getElem_toArray, List.getElem_cons_zero, List.getElem_cons_succ, List.setIfInBounds_toArray, List.set_cons_zero, List.set_cons_succ]
      refine wpAnyH_take (i := 4) (v := .pointer (some ⟨g, o + k * 3, none⟩)) rfl (by kernel_rfl) (by kernel_rfl) (by kernel_rfl) (fun _ _ _ h => h) (Yields.yieldsIf (Or.inl ⟨by rfl, fun w => by go_simp⟩)) KF.out ?_
      try simp only [Act.put, List.getElem_toArray, List.getElem_cons_zero, List.getElem_cons_succ, List.setIfInBounds_toArray, List.set_cons_zero, List.set_cons_succ]
      refine wpAnyH_take (i := 5) (v := .int .i64 ra) rfl (by kernel_rfl) (by kernel_rfl) (by kernel_rfl) (fun _ _ _ h => h) (Or.inl ⟨by rfl, fun w9 h9 => by have h5 := h9.e0; have h6 := h9.e1; have h7 := h9.e2; go_simp⟩) KF.out ?_
      try simp only [Act.put, List.getElem_toArray, List.getElem_cons_zero, List.getElem_cons_succ, List.setIfInBounds_toArray, List.set_cons_zero, List.set_cons_succ]
      refine wpAnyH_take (i := 6) (v := .slice (some ⟨g1, 0, none⟩) (ro + 2) q1) rfl (by kernel_rfl) (by kernel_rfl) (by kernel_rfl) (fun _ _ _ h => h) (Yields.yieldsIf (Or.inl ⟨by rfl, fun w => by go_simp⟩)) KF.out ?_
      try simp only [Act.put, List.getElem_toArray, List.getElem_cons_zero, List.getElem_cons_succ, List.setIfInBounds_toArray, List.set_cons_zero, List.set_cons_succ]
      refine wpAnyH_take (i := 7) (v := .slice (some ⟨g, o, none⟩) en ec) rfl (by kernel_rfl) (by kernel_rfl) (by kernel_rfl) (fun _ _ _ h => h) (Yields.yieldsIf (Or.inl ⟨by rfl, fun w => by go_simp⟩)) KF.out ?_
      try simp only [Act.put, List.getElem_toArray, List.getElem_cons_zero, List.getElem_cons_succ, List.setIfInBounds_toArray, List.set_cons_zero, List.set_cons_succ]
      refine wpAnyH_take (i := 8) (v := .int .i64 (k : Int)) rfl (by kernel_rfl) (by kernel_rfl) (by kernel_rfl) (fun _ _ _ h => h) (Yields.yieldsIf (Or.inl ⟨by rfl, fun w => by go_simp⟩)) KF.out ?_
      try simp only [Act.put, List.getElem_toArray, List.getElem_cons_zero, List.getElem_cons_succ, List.setIfInBounds_toArray, List.set_cons_zero, List.set_cons_succ]
      refine wpAnyH_take (i := 9) (v := .pointer (some ⟨g, o + k * 3, none⟩)) rfl (by kernel_rfl) (by kernel_rfl) (by kernel_rfl) (fun _ _ _ h => h) (Yields.yieldsIf (Or.inl ⟨by rfl, fun w => by go_simp⟩)) KF.out ?_
      try simp only [Act.put, List.getElem_toArray, List.getElem_cons_zero, List.getElem_cons_succ, List.setIfInBounds_toArray, List.set_cons_zero, List.set_cons_succ]
      refine wpAnyH_take (i := 10) (v := .pointer (some ⟨g, o + k * 3 + 1, none⟩)) rfl (by kernel_rfl) (by kernel_rfl) (by kernel_rfl) (fun _ _ _ h => h) (Yields.yieldsIf (Or.inl ⟨by rfl, fun w => by go_simp⟩)) KF.out ?_
      try simp only [Act.put, List.getElem_toArray, List.getElem_cons_zero, List.getElem_cons_succ, List.setIfInBounds_toArray, List.set_cons_zero, List.set_cons_succ]
      refine wpAnyH_take (i := 11) (v := .slice rp1 ro rc1) rfl (by kernel_rfl) (by kernel_rfl) (by kernel_rfl) (fun _ _ _ h => h) (Or.inl ⟨by rfl, fun w9 h9 => by have h5 := h9.e0; have h6 := h9.e1; have h7 := h9.e2; go_simp⟩) KF.out ?_
      try simp only [Act.put, List.getElem_toArray, List.getElem_cons_zero, List.getElem_cons_succ, List.setIfInBounds_toArray, List.set_cons_zero, List.set_cons_succ]
      refine wpAnyH_take (i := 12) (v := .int .i64 ((ro : Nat) : Int)) rfl (by kernel_rfl) (by kernel_rfl) (by kernel_rfl) (fun _ _ _ h => h) (Yields.yieldsIf (Or.inl ⟨by rfl, fun w => by go_simp⟩)) KF.out ?_
      try simp only [Act.put, List.getElem_toArray, List.getElem_cons_zero, List.getElem_cons_succ, List.setIfInBounds_toArray, List.set_cons_zero, List.set_cons_succ]
      refine wpAnyH_take (i := 13) (v := .slice (some ⟨g1, 0, none⟩) ro q1) rfl (by kernel_rfl) (by kernel_rfl) (by kernel_rfl) (fun _ _ _ h => h) (Yields.yieldsIf (Or.inl ⟨by rfl, fun w => by go_simp⟩)) KF.out ?_
      try simp only [Act.put, List.getElem_toArray, List.getElem_cons_zero, List.getElem_cons_succ, List.setIfInBounds_toArray, List.set_cons_zero, List.set_cons_succ]
      refine wpAnyH_take (i := 14) (v := .slice (some ⟨g2, 0, none⟩) (rn + 2) q2) rfl (by kernel_rfl) (by kernel_rfl) (by kernel_rfl) (fun _ _ _ h => h) (Yields.yieldsIf (Or.inl ⟨by rfl, fun w => by go_simp⟩)) KF.out ?_
      try simp only [Act.put, List.getElem_toArray, List.getElem_cons_zero, List.getElem_cons_succ, List.setIfInBounds_toArray, List.set_cons_zero, List.set_cons_succ]
      refine wpAnyH_take (i := 15) (v := .slice (some ⟨g, o, none⟩) en ec) rfl (by kernel_rfl) (by kernel_rfl) (by kernel_rfl) (fun _ _ _ h => h) (Yields.yieldsIf (Or.inl ⟨by rfl, fun w => by go_simp⟩)) KF.out ?_
      try simp only [Act.put, List.getElem_toArray, List.getElem_cons_zero, List.getElem_cons_succ, List.setIfInBounds_toArray, List.set_cons_zero, List.set_cons_succ]
      refine wpAnyH_take (i := 16) (v := .int .i64 (k : Int)) rfl (by kernel_rfl) (by kernel_rfl) (by kernel_rfl) (fun _ _ _ h => h) (Yields.yieldsIf (Or.inl ⟨by rfl, fun w => by go_simp⟩)) KF.out ?_
      try simp only [Act.put, List.getElem_toArray, List.getElem_cons_zero, List.getElem_cons_succ, List.setIfInBounds_toArray, List.set_cons_zero, List.set_cons_succ]
      refine wpAnyH_take (i := 17) (v := .pointer (some ⟨g, o + k * 3, none⟩)) rfl (by kernel_rfl) (by kernel_rfl) (by kernel_rfl) (fun _ _ _ h => h) (Yields.yieldsIf (Or.inl ⟨by rfl, fun w => by go_simp⟩)) KF.out ?_
      try simp only [Act.put, List.getElem_toArray, List.getElem_cons_zero, List.getElem_cons_succ, List.setIfInBounds_toArray, List.set_cons_zero, List.set_cons_succ]
      refine wpAnyH_take (i := 18) (v := .pointer (some ⟨g, o + k * 3 + 2, none⟩)) rfl (by kernel_rfl) (by kernel_rfl) (by kernel_rfl) (fun _ _ _ h => h) (Yields.yieldsIf (Or.inl ⟨by rfl, fun w => by go_simp⟩)) KF.out ?_
      try simp only [Act.put, List.getElem_toArray, List.getElem_cons_zero, List.getElem_cons_succ, List.setIfInBounds_toArray, List.set_cons_zero, List.set_cons_succ]
      refine wpAnyH_take (i := 19) (v := .slice rp2 rn rc2) rfl (by kernel_rfl) (by kernel_rfl) (by kernel_rfl) (fun _ _ _ h => h) (Or.inl ⟨by rfl, fun w9 h9 => by have h5 := h9.e0; have h6 := h9.e1; have h7 := h9.e2; go_simp⟩) KF.out ?_
      try simp only [Act.put, List.getElem_toArray, List.getElem_cons_zero, List.getElem_cons_succ, List.setIfInBounds_toArray, List.set_cons_zero, List.set_cons_succ]
      refine wpAnyH_take (i := 20) (v := .int .i64 ((rn : Nat) : Int)) rfl (by kernel_rfl) (by kernel_rfl) (by kernel_rfl) (fun _ _ _ h => h) (Yields.yieldsIf (Or.inl ⟨by rfl, fun w => by go_simp⟩)) KF.out ?_
      try simp only [Act.put, List.getElem_toArray, List.getElem_cons_zero, List.getElem_cons_succ, List.setIfInBounds_toArray, List.set_cons_zero, List.set_cons_succ]
      refine wpAnyH_take (i := 21) (v := .slice (some ⟨g2, 0, none⟩) rn q2) rfl (by kernel_rfl) (by kernel_rfl) (by kernel_rfl) (fun _ _ _ h => h) (Yields.yieldsIf (Or.inl ⟨by rfl, fun w => by go_simp⟩)) KF.out ?_
      try simp only [Act.put, List.getElem_toArray, List.getElem_cons_zero, List.getElem_cons_succ, List.setIfInBounds_toArray, List.set_cons_zero, List.set_cons_succ]
      refine wpAnyH_take (i := 22) (v := .agg #[.int .i64 ra, .slice (some ⟨g1, 0, none⟩) ro q1, .slice (some ⟨g2, 0, none⟩) rn q2]) rfl (by kernel_rfl) (by kernel_rfl) (by kernel_rfl) (fun _ _ _ h => h) (Yields.yieldsIf (Or.inl ⟨by rfl, fun w => by go_simp⟩)) KF.out ?_
      try simp only [Act.put, List.getElem_toArray, List.getElem_cons_zero, List.getElem_cons_succ, List.setIfInBounds_toArray, List.set_cons_zero, List.set_cons_succ]
      refine wpAnyH_all (rs := [23]) (by kernel_rfl) (by simp) (AllH.cons rfl (fun K hK => ?_) AllH.nil)
      go_simp
      have B6 : Hid (Below wr.heap.size wr (V5.alloc (.cells #[.int .i64 ra, .slice (some ⟨g1, 0, none⟩) ro q1, .slice (some ⟨g2, 0, none⟩) rn q2] 38))) := bT BV.out (bAlloc (Below.refl _ _) _)
      have O6 : Hid (Om (V5.alloc (.cells #[.int .i64 ra, .slice (some ⟨g1, 0, none⟩) ro q1, .slice (some ⟨g2, 0, none⟩) rn q2] 38)) wr.heap.size ⟨ra, some ⟨g1, 0, none⟩, ro, q1, rO, some ⟨g2, 0, none⟩, rn, q2, rN⟩) := OM.out.keep (bAlloc (Below.refl _ _) _)
      have C6 : Hid (∀ (j : Nat) (u : Value), (Er.cs ⟨ra, some ⟨g1, 0, none⟩, ro, q1, rO, some ⟨g2, 0, none⟩, rn, q2, rN⟩).toList[j]? = some u → (V5.alloc (.cells #[.int .i64 ra, .slice (some ⟨g1, 0, none⟩) ro q1, .slice (some ⟨g2, 0, none⟩) rn q2] 38)).cell? ((⟨V5.heap.size, 0, none⟩ : Addr).add j) = some u) := fun j u hj => lit_cells V5 _ 38 j u hj
      have KE6 : Hid (Ed3 (V5.alloc (.cells #[.int .i64 ra, .slice (some ⟨g1, 0, none⟩) ro q1, .slice (some ⟨g2, 0, none⟩) rn q2] 38)) g (o + k * 3) ra rp1 ro rc1 rp2 rn rc2) := KF.out.keep (bAlloc (Below.refl _ _) _)
      obtain ⟨g5, hg5⟩ : ∃ g5, g5 = V5.heap.size := ⟨_, rfl⟩
      rw [← hg5] at C6 ⊢
      clear hg5 OM BV KF
      generalize V5.alloc (.cells #[.int .i64 ra, .slice (some ⟨g1, 0, none⟩) ro q1, .slice (some ⟨g2, 0, none⟩) rn q2] 38) = w6 at *
      refine hK _ _ ⟨KE6.out, ?_⟩
      clear hK K
      try simp only [Act.put, List.getElem_toArray, List.getElem_cons_zero, List.getElem_cons_succ, List.setIfInBounds_toArray, List.set_cons_zero, List.set_cons_succ]
      refine wpAnyH_all (rs := [24]) (by kernel_rfl) (by simp) (AllH.cons rfl (fun K hK => ?_) AllH.nil)
      obtain ⟨v', w7, hr7, ho7, hg7, hf7⟩ := app_ed w.heap.size _ _ _ (own_keep KL.out.own B6.out) ⟨g5, 0, none⟩ ⟨ra, some ⟨g1, 0, none⟩, ro, q1, rO, some ⟨g2, 0, none⟩, rn, q2, rN⟩ C6.out (by have := HL.out; simp; omega) (Nat.le_trans KL.out.bel.size B6.out.size)
      have hL7 := KL.out.snoc B6.out O6.out hg7 (by simpa [ecs_nil] using ho7) hf7
      have KE7 := Hid.mk' (ed3_row KE6.out hg7 (fun k hk => (KL.out.own.lt k hk).1) HG.out)
      have L7 := Hid.mk' hL7
      refine st_ed rfl _ _ rfl _ _ rfl rfl (fun ty => hr7 ty 1) ?_
      clear hr7 ho7 hg7 hf7 hL7
      refine hK _ _ ⟨KE7.out, ?_⟩
      clear hK K
      try simp only [Act.put, List.getElem_toArray, List.getElem_cons_zero, List.getElem_cons_succ, List.setIfInBounds_toArray, List.set_cons_zero, List.set_cons_succ]
      refine wpAnyH_take (i := 25) (v := v') rfl (by kernel_rfl) (by kernel_rfl) (by kernel_rfl) (fun _ _ _ h => h) (Yields.yieldsIf (Or.inl ⟨by rfl, fun w => by go_simp⟩)) KE7.out ?_
      try simp only [Act.put, List.getElem_toArray, List.getElem_cons_zero, List.getElem_cons_succ, List.setIfInBounds_toArray, List.set_cons_zero, List.set_cons_succ]
      refine wpAnyH_done (by kernel_rfl) ?_ _
      go_wp2
      go_roundg go
      case measure => omega
      case rel => exact ⟨k + 1, _, by go_num, by omega, by unfold Hid; rw [List.map_append, HF.out, HIT.out]; rfl, by unfold Hid; rw [List.length_append, HL.out]; rfl, L7.out⟩
    · have hi' : ¬ (k : Int) < (en : Int) := by omega
      have hk : k = en := by omega
      subst hk
      have HF2 : Hid (F.map Er.d = E.map Er.d) := by
        have h1 := HF.out
        rw [List.take_of_length_le (by rw [List.length_map]; have := HN.out; omega)] at h1
        exact h1
      obtain ⟨w5, hw5⟩ : ∃ w5, w5 = wr.alloc (.cells #[.int .i64 (-77), .slice none 0 0, .slice none 0 0, .int .i64 (-78), .slice none 0 0, .slice none 0 0] 38) := ⟨_, rfl⟩
      have B5 : Below wr.heap.size wr w5 := by rw [hw5]; exact bAlloc (Below.refl _ _) _
      obtain ⟨v', w7, hr7, ho7, hg7, hf7⟩ := app_eds w.heap.size u3 _ 2 _ (own_keep KL.out.own B5) ⟨wr.heap.size, 0, none⟩ mkE rfl (fun j u hj => by rw [hw5]; exact lit_cells wr _ 38 j u hj) (by have := HL.out; simp; omega) (Nat.le_trans KL.out.bel.size B5.size)
      have hL7 := KL.out.tail (T := mkE) B5 hg7 (by have h := ho7; simp only [ecs_nil, List.append_nil, List.length_nil, Nat.add_zero] at h; exact h) hf7
      obtain ⟨g7, q7, e7, hq7, -⟩ := own_some hL7.own (by simp [mkE])
      have hfl := HL.out
      have e8 : v' = .slice (some ⟨g7, 0, none⟩) (F.length + 2) q7 := e7
      have hq8 : F.length + 2 ≤ q7 := hq7
      have L7 : Hid (Mst w w7 (.slice (some ⟨g7, 0, none⟩) (F.length + 2) q7) mkE F) := by unfold Hid; rw [← e8]; exact hL7
      rw [hfl] at e8 hq8
      subst e8
      have s1 := so_e g7 (k + 2) q7 k (z := (k : Int)) (by omega) rfl
      have R7 := Hid.mk' hr7
      have HQ := Hid.mk' hq8
      clear hgo HF hr7 ho7 hg7 hf7 hL7 e7 hq7 hfl hq8 B5 him
      go_wp2_with (at_builtin; rw [← hw5]; refine wl_ed rfl _ _ rfl _ _ rfl rfl (fun ty => R7.out ty _) ?_)
      go_ret
      exact ⟨g7, q7, F, rfl, HL.out, HQ.out, HF2.out, L7.out⟩
end Go.Proofs.Ythklmdnamkjgmaa
