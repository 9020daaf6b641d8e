/- The program's walk: cross. -/
import Derived.Test.YtaahklapoppgaaaQm12
import Derived.Test.YtaahklapoppgaaaQm13
import Derived.Test.YtaahklapoppgaaaQm15
namespace Go.Proofs.Ytaahklapoppgaaa
open Go.RowKit

set_option maxRecDepth 8000
theorem Rs.join {lo mid mid2 hi : Nat} {W : World} {R R' : List Rw} (h : Rs lo mid W R) (h' : Rs mid2 hi W R') (h1 : lo ≤ mid) (hm : mid ≤ mid2) (h2 : mid2 ≤ hi) : Rs lo hi W (R ++ R') := by
  refine ⟨fun i r hi => ?_, fun i r hi g hg => ?_, fun i j p q hij hi hj => ?_⟩
  · rw [List.getElem?_append] at hi
    split at hi
    · exact h.own i r hi
    · exact own_lower (h'.own _ r hi) (by omega)
  · rw [List.getElem?_append] at hi
    split at hi
    · have := h.up i r hi g hg; omega
    · exact h'.up _ r hi g hg
  · rw [List.getElem?_append] at hi hj
    split at hi
    · split at hj
      · exact h.far i j p q hij hi hj
      · exact fun g g1 g2 => by have := h.up i p hi g g1; have := ((h'.own _ q hj).lt g g2).1; omega
    · split at hj
      · exact fun g g1 g2 => by have := h.up j q hj g g2; have := ((h'.own _ p hi).lt g g1).1; omega
      · exact h'.far _ _ p q (by omega) hi hj
theorem Rs.tail {lo hi : Nat} {W : World} {x : Rw} {R : List Rw} (h : Rs lo hi W (x :: R)) : Rs lo hi W R := ⟨fun i r hi => h.own (i + 1) r (by simpa using hi), fun i r hi => h.up (i + 1) r (by simpa using hi), fun i j p q hij hi hj => h.far (i + 1) (j + 1) p q (by omega) (by simpa using hi) (by simpa using hj)⟩
theorem Rs.grow {lo hi : Nat} {W W' : World} {R : List Rw} {i : Nat} {r : Rw} {t s n : Nat} {v : Value} {xs : List Value} (h : Rs lo hi W R) (hr : R[i]? = some r) (hg : W.grownBy W' r.v.ownBlock) (ho : W'.ownsRow lo t s v n xs)
    (hf : v.ownBlock = r.v.ownBlock ∨ ∃ q, v.ownBlock = some q ∧ W.heap.size ≤ q) : Rs lo W'.heap.size W' (R.set i ⟨t, s, v, n, xs⟩) := by
  have hfar : ∀ j q, j ≠ i → R[j]? = some q → Far q.v v := fun j q hj hq g h1 h2 => by
    rcases hf with e | ⟨k, e, hk⟩
    · exact h.far j i q r hj hq hr g h1 (by rw [← e]; exact h2)
    · have := ((h.own j q hq).lt g h1).2
      rw [e] at h2; simp at h2; omega
  refine ⟨fun j q hj => ?_, fun j q hj g hg' => ?_, fun j k p q hjk hj hk => ?_⟩
  · rcases set_at hj with ⟨hne, hj⟩ | ⟨_, rfl⟩
    · exact (h.own j q hj).kept hg (h.far j i q r hne hj hr).ne
    · exact ho
  · rcases set_at hj with ⟨hne, hj⟩ | ⟨_, rfl⟩
    · have := ((h.own j q hj).lt g hg').2; have := hg.size; omega
    · exact (ho.lt g hg').2
  · rcases set_at hj with ⟨hne, hj⟩ | ⟨e1, rfl⟩
    · rcases set_at hk with ⟨hne2, hk⟩ | ⟨e2, rfl⟩
      · exact h.far j k p q hjk hj hk
      · exact hfar j p hne hj
    · rcases set_at hk with ⟨hne2, hk⟩ | ⟨e2, rfl⟩
      · exact (hfar k q hne2 hk).symm
      · omega
theorem rowsE_append (A C : List Er) : rowsE (A ++ C) = rowsE A ++ rowsE C := by simp [rowsE]
/-- append of a list of edits -/
theorem app_list {w : World} (base : Nat) (v : Value) (n : Nat) (xs : List Value) (hown : w.ownsRow base 77 3 v n xs) (u : Value) (m : Nat) (news : List Value) (hsrc : Srv w u m news) (hl : news.length = m * 3) (h1 : ∀ u ∈ news, u.oneCell' = true) (hb : (n + m) * 56 ≤ 140737488355328) (hbase : base ≤ w.heap.size) :
    ∃ v' w', (∀ ty, (Builtin.append_ #[38, 38] ty #[v, u]).run Try.prog w = .ok v' w') ∧ w'.ownsRow base 77 3 v' (n + m) (xs ++ news) ∧ w.grownBy w' v.ownBlock ∧ (v'.ownBlock = v.ownBlock ∨ ∃ q, v'.ownBlock = some q ∧ w.heap.size ≤ q) := by
  obtain ⟨i8, hi8, hz8, hs8, hb8⟩ := info_parts info38
  rcases hsrc with ⟨rfl, rfl, rfl⟩ | ⟨ad, c, rfl, hc⟩
  · exact ⟨v, w, fun ty => run_append_owned_none (P := Try.prog) (w := w) base 38 ty 77 i8 3 Try.underlying38 hi8 v n xs hown, by simpa using hown, ⟨rfl, rfl, rfl, Nat.le_refl _, fun _ _ _ => rfl⟩, .inl rfl⟩
  · obtain ⟨v', w', hr, h2, h3, h4, h5⟩ := run_append_own_at (P := Try.prog) w base 38 38 77 i8 _ 3 56 Try.underlying38 hi8 hz8 hs8 hb8 rfl (by decide) v n xs hown ad m c news hl hc h1 (by unfold maxLen; omega) hb hbase
    refine ⟨v', w', fun ty => hr, h2, h3, ?_⟩
    rcases h5 with e | e
    · exact .inl e
    · exact .inr ⟨_, e, Nat.le_refl _⟩
/-- edits of one list behind those of another -/
theorem Ls.app {lo mid mid2 hi : Nat} {W : World} {va ua : Option Addr} {vn vc un uc : Nat} {F F2 : List Er} (h : Ls lo mid W (.slice va vn vc) F) (h' : Ls mid2 hi W (.slice ua un uc) F2) (hf : F.length = vn) (hf2 : F2.length = un) (h1 : lo ≤ mid) (hm : mid ≤ mid2) (h2 : mid2 ≤ hi) (hh : hi ≤ W.heap.size) (hb : (vn + un) * 56 ≤ 140737488355328) :
    ∃ v' W', (∀ ty, (Builtin.append_ #[38, 38] ty #[.slice va vn vc, .slice ua un uc]).run Try.prog W = .ok v' W') ∧ Ls lo W'.heap.size W' v' (F ++ F2) ∧ W.grownBy W' (Value.slice va vn vc).ownBlock ∧ (∀ g, (Value.slice va vn vc).ownBlock = some g → lo ≤ g ∧ g < mid) ∧ (v'.ownBlock = (Value.slice va vn vc).ownBlock ∨ ∃ q, v'.ownBlock = some q ∧ W.heap.size ≤ q) ∧ ∃ a c, v' = .slice a (vn + un) c := by
  have ho : W.ownsRow lo 77 3 (.slice va vn vc) vn (ecs F) := by have := h.rs.own 0 _ rfl; dsimp only at this; rwa [hf] at this
  have ho2 : W.ownsRow mid2 77 3 (.slice ua un uc) un (ecs F2) := by have := h'.rs.own 0 _ rfl; dsimp only at this; rwa [hf2] at this
  obtain ⟨v', W', hr, h3, h4, h5⟩ := app_list lo _ vn _ ho _ un _ (own_srv ho2) (by rw [ecs_len, hf2]) (ecs_one F2) hb (by omega)
  have hj := h.rs.join (Rs.tail (x := ⟨77, 3, .slice ua un uc, F2.length, ecs F2⟩) h'.rs) h1 hm h2
  have hg := hj.grow (i := 0) (r := ⟨77, 3, .slice va vn vc, F.length, ecs F⟩) rfl h4 h3 h5
  refine ⟨v', W', hr, ⟨?_, fun r hr => ?_⟩, h4, fun g hg => ⟨(ho.lt g hg).1, h.rs.up 0 _ rfl g hg⟩, h5, own_shape h3⟩
  · unfold rowF
    rw [rowsE_append, ecs_append, List.length_append, hf, hf2]
    exact hg
  · rcases List.mem_append.1 hr with hr | hr
    · exact h.bnd r hr
    · exact h'.bnd r hr
/-- a walk in memory -/
structure Wm (lo q : Nat) (W : World) (p B k : Nat) (H : List Nr) (X : List Value) (S : List (Nat × Nat)) (va : Option Addr) (vn vc : Nat) (F : List Er) (now cur : Int) (m : List Int) : Prop where
  box : Blk W p 100 (wca (some ⟨B, 0, none⟩) H.length k now (.slice va vn vc) cur m)
  hst : Hst lo p W B H X S
  eds : Ls (p + 1) q W (.slice va vn vc) F
  fl : F.length = vn
  mw : Mw m
  pq : p < q
  qt : q ≤ W.heap.size
  hk : H.length ≤ k
theorem Wm.keep {lo q p B k vn vc : Nat} {W W' : World} {H : List Nr} {X : List Value} {S : List (Nat × Nat)} {va : Option Addr} {F : List Er} {now cur : Int} {m : List Int} (h : Wm lo q W p B k H X S va vn vc F now cur m) (hb : Below W.heap.size W W') : Wm lo q W' p B k H X S va vn vc F now cur m :=
  ⟨h.box.keep hb, h.hst.keep hb, h.eds.keep hb, h.fl, h.mw, h.pq, Nat.le_trans h.qt hb.size, h.hk⟩
/-- the cells of a walk -/
structure Wx (W : World) (p B n k : Nat) (va : Option Addr) (vn vc : Nat) (now cur : Int) (m : List Int) : Prop where
  c0 : W.cell? ⟨p, 0, none⟩ = some (.slice (some ⟨B, 0, none⟩) n k)
  c1 : W.cell? ⟨p, 1, none⟩ = some (.int .i64 now)
  c2 : W.cell? ⟨p, 2, none⟩ = some (.slice va vn vc)
  c3 : W.cell? ⟨p, 3, none⟩ = some (.int .i64 cur)
  mm : W.rangeAt p 4 (ml m)
  cc : W.rangeAt p 2 (cx (.slice va vn vc) cur m)
theorem Wm.wx {lo q p B k vn vc : Nat} {W : World} {H : List Nr} {X : List Value} {S : List (Nat × Nat)} {va : Option Addr} {F : List Er} {now cur : Int} {m : List Int} (h : Wm lo q W p B k H X S va vn vc F now cur m) : Wx W p B H.length k va vn vc now cur m := by
  have hr : W.rangeAt p 0 (wc (some ⟨B, 0, none⟩) H.length k now (.slice va vn vc) cur m) := range_blk h.box
  refine ⟨hr 0 _ rfl, hr 1 _ rfl, hr 2 _ rfl, hr 3 _ rfl, ?_, ?_⟩
  · have := range_part (pre := [.slice (some ⟨B, 0, none⟩) H.length k, .int .i64 now, .slice va vn vc, .int .i64 cur]) (mid := ml m) (post := []) (by rw [List.append_nil]; exact hr)
    simpa using this
  · have := range_part (pre := [.slice (some ⟨B, 0, none⟩) H.length k, .int .i64 now]) (mid := cx (.slice va vn vc) cur m) (post := []) (by rw [List.append_nil]; exact hr)
    simpa using this
theorem wrap_le (a : Int) : wrap64 a ≤ 9223372036854775807 := by unfold wrap64; omega
theorem bhd_le {x a : Int} {o n : Nat} (h : x ≤ 9223372036854775807) : bhd x a o n ≤ 9223372036854775807 := by
  unfold bhd
  split
  · exact h
  · split
    · exact wrap_le _
    · exact wrap_le _
theorem mvL_le : ∀ (T : List (Int × Nat × Nat)) (L : List Int), (∀ y ∈ L, y ≤ 9223372036854775807) → ∀ y ∈ mvL L T, y ≤ 9223372036854775807
  | [], _, hL => hL
  | t :: T, L, hL => fun y hy => mvL_le T (shl L t.1 t.2.1 t.2.2) (fun z hz => by
      obtain ⟨x, hx, rfl⟩ := List.mem_map.1 hz
      exact bhd_le (hL x hx)) y hy
theorem getD_le {L : List Int} (h : ∀ y ∈ L, y ≤ 9223372036854775807) (j : Nat) : L.getD j 0 ≤ 9223372036854775807 := by
  rw [List.getD_eq_getElem?_getD]
  cases e : L[j]? with
  | none => simp
  | some x => exact h x (List.mem_of_getElem? e)
theorem crs_mw {m was made : List Int} {D : List Ed} (hm : Mw m) (hw : Mw was) : Mw (crs m was made D) := by
  refine ⟨crs_len _ _ _ _, fun x hx => ?_⟩
  unfold crs crL at hx
  obtain ⟨j, -, rfl⟩ := List.mem_map.1 hx
  split
  · exact getD_le hw.big j
  · exact getD_le (mvL_le _ _ hm.big) j
theorem er_t {W : World} {ao : Option Addr} {E : List Er} (h : Edz W ao E) : E.map Er.t = (E.map Er.d).map Ed.t := by
  rw [List.map_map]
  apply List.map_congr_left
  intro r hr
  obtain ⟨k, hk⟩ := List.getElem?_of_mem hr
  have h1 := h.txs k r hk
  show (r.a, r.o, r.n) = (r.a, r.O.length, r.N.length)
  rw [h1.t1.len, h1.t2.len]
/-- a change whose marks were crossed -/
def Nr.mk2 (r : Nr) (m k : List Int) : Nr := { r with was := m, made := k }
theorem Nr.mk2_d (r : Nr) (m k : List Int) : (r.mk2 m k).d = { r.d with was := m, made := k } := rfl
/-- all that lay lies on, but for the walk, the changes' row and one row besides -/
def Frm (p B : Nat) (v : Value) (W W' : World) : Prop := ∀ g, g < W.heap.size → g ≠ p → g ≠ B → v.ownBlock ≠ some g → W'.heap[g]? = W.heap[g]?
/-- a row is where it was, or new -/
def Nxt (v v' : Value) (W : World) : Prop := v'.ownBlock = v.ownBlock ∨ ∃ q, v'.ownBlock = some q ∧ W.heap.size ≤ q
def WcP (lo : Nat) (W : World) (p B k : Nat) (H : List Nr) (X : List Value) (S : List (Nat × Nat)) (v0 : Value) (vn : Nat) (F : List Er) (now cur : Int) (m : List Int) (e : Ending) (W' : World) : Prop := (∃ u, e = .returned u) ∧ Below lo W W' ∧ Frm p B v0 W W' ∧ ∃ va vc, Nxt v0 (.slice va vn vc) W ∧ Wm lo W'.heap.size W' p B k H X S va vn vc F now cur m
end Go.Proofs.Ytaahklapoppgaaa

