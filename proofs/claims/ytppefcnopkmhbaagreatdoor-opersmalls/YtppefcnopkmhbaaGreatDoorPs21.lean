/- Jst -/
import Derived.Test.YtppefcnopkmhbaaGreatDoorPs20
namespace Go.Proofs.YtppefcnopkmhbaaGreatDoor
open Go.RowKit

set_option maxRecDepth 8000
theorem Eds.snoc2 {W' W'' : World} {lo hi : Nat} {v v' : Value} {F : List Er} {r : Er} (h : Eds W' lo hi v F) (hhi : hi ≤ W'.heap.size) (h1 : Wb W' hi W'.heap.size (.slice r.p1 r.o r.c1) r.O) (h2 : Wb W' hi W'.heap.size (.slice r.p2 r.n r.c2) r.N) (hf : Far (.slice r.p1 r.o r.c1) (.slice r.p2 r.n r.c2)) (b1 : r.o ≤ 140737488355328) (b2 : r.n ≤ 140737488355328)
    (hg : W'.grownBy W'' v.ownBlock) (hv : W''.ownsRow lo 65 3 v' (F.length + 1) (ecs F ++ r.cs.toList)) (hlo : lo ≤ hi) : Eds W'' lo W''.heap.size v' (F ++ [r]) := by
  have hs2 := hg.size
  have ho : ∀ (k : Nat) (x : Value × List UInt8), (tes F)[k]? = some x → Wb W'' lo W''.heap.size x.1 x.2 := fun k x hx => ((h.tx k x hx).off hg ((h.tx k x hx).row_far h.row (by decide))).wide (Nat.le_refl _) (by omega)
  have hn : ∀ v l, Wb W' hi W'.heap.size v l → Wb W'' lo W''.heap.size v l := fun u l hu => by
    refine ((hu.off hg ?_).wide hlo (by omega))
    exact hu.row_far h.row (by decide)
  have hfo : ∀ (k : Nat) (x : Value × List UInt8) (u : Value) (l : List UInt8), (tes F)[k]? = some x → Wb W' hi W'.heap.size u l → Far x.1 u := fun k x u l hx hu => (h.tx k x hx).far hu (.inl (Nat.le_refl _))
  refine ⟨by rw [List.length_append, ecs_snoc]; exact hv, fun g hg' => (hv.lt g hg').2, fun k x hx => ?_, fun i j x y hij hi hj => ?_, fun s hs => ?_⟩
  · rw [tes_snoc] at hx
    rcases snoc2_at hx with e | ⟨_, rfl⟩ | ⟨_, rfl⟩
    · exact ho k x e
    · exact hn _ _ h1
    · exact hn _ _ h2
  · rw [tes_snoc] at hi hj
    rcases snoc2_at hi with e | ⟨e, rfl⟩ | ⟨e, rfl⟩ <;> rcases snoc2_at hj with e' | ⟨e', rfl⟩ | ⟨e', rfl⟩
    · exact h.far i j x y hij e e'
    · exact hfo i x _ _ e h1
    · exact hfo i x _ _ e h2
    · exact (hfo j y _ _ e' h1).symm
    · exact absurd (e.trans e'.symm) hij
    · exact hf
    · exact (hfo j y _ _ e' h2).symm
    · exact hf.symm
    · exact absurd (e.trans e'.symm) hij
  · rcases List.mem_append.1 hs with hs | hs
    · exact h.big s hs
    · simp at hs; subst hs; exact ⟨b1, b2⟩
theorem blk_ne {W : World} {B e base e' s n : Nat} {cs : Array Value} {v : Value} {xs : List Value} (h : Blk W B e cs) (k : W.ownsRow base e' s v n xs) (he : e ≠ e') : some B ≠ v.ownBlock := fun hb => by
  rcases k.2 with ⟨rfl, _⟩ | ⟨g, c, u, rfl, _, hg, _⟩
  · simp [Value.ownBlock] at hb
  · simp [Value.ownBlock] at hb
    subst hb
    unfold Blk at h
    rw [h] at hg
    simp at hg
    exact he hg.2
theorem Blk.lt2 {W : World} {B e : Nat} {cs : Array Value} (h : Blk W B e cs) : B < W.heap.size := h.lt
theorem Blk.off2 {W W' : World} {B e : Nat} {cs : Array Value} {r : Option Nat} (h : Blk W B e cs) (hg : W.grownBy W' r) (hne : some B ≠ r) : Blk W' B e cs := by
  unfold Blk
  rw [hg.block B h.lt2 hne]
  exact h
theorem Eds.offj {W W' : World} {lo hi base m : Nat} {v jv : Value} {F : List Er} {js : List Value} (h : Eds W lo hi v F) (hg : W.grownBy W' jv.ownBlock) (hj : W.ownsRow base 5 1 jv m js) (hf : ∀ (k : Nat) (x : Value × List UInt8), (tes F)[k]? = some x → Far jv x.1) : Eds W' lo hi v F :=
  ⟨own_same h.row (fun g h1 h2 => hg.block g h2 (fun e => far_type h.row hj (by decide) g h1 e.symm)), h.up, fun k x hk => (h.tx k x hk).off hg (fun g hg' e => hf k x hk g e.symm hg'), h.far, h.big⟩
/-- Join's state: the result's box, its own box, its edits, the line as it grows -/
structure Jst (W1 W : World) (B Q hi : Nat) (v0 : Value) (cur : Int) (F : List Er) (jv : Value) (J : List UInt8) : Prop where
  bx : Blk W B 35 (ef7 (.slice none 0 0) 0 false false (.slice none 0 0) 0 false)
  qx : Blk W Q 35 (ef7 v0 cur false false (.slice none 0 0) 0 false)
  ed : Eds W W1.heap.size hi v0 F
  jn : W.ownsRow W1.heap.size 5 1 jv J.length (bv J)
  fr : ∀ (k : Nat) (x : Value × List UInt8), (tes F)[k]? = some x → Far jv x.1
  bel : Below W1.heap.size W1 W
  hq : W1.heap.size ≤ Q
  hb : B < W1.heap.size
  ju : ∀ g, jv.ownBlock = some g → g < hi
  hhi : hi ≤ W.heap.size
  hlo : W1.heap.size ≤ hi
theorem Jst.keep {W1 W W' : World} {B Q hi : Nat} {v0 : Value} {cur : Int} {F : List Er} {jv : Value} {J : List UInt8} (h : Jst W1 W B Q hi v0 cur F jv J) (hb : Below W.heap.size W W') : Jst W1 W' B Q hi v0 cur F jv J :=
  ⟨h.bx.keep hb, h.qx.keep hb, h.ed.keep hb, own_keep h.jn hb, h.fr, bT h.bel hb, h.hq, h.hb, h.ju, Nat.le_trans h.hhi hb.size, h.hlo⟩
theorem Jst.box {W1 W W' : World} {B Q hi : Nat} {v0 : Value} {cur cur' : Int} {F : List Er} {jv : Value} {J : List UInt8} (h : Jst W1 W B Q hi v0 cur F jv J) (hg : W.grownBy W' (some Q)) (hq : Blk W' Q 35 (ef7 v0 cur' false false (.slice none 0 0) 0 false)) : Jst W1 W' B Q hi v0 cur' F jv J :=
  ⟨h.bx.off2 hg (fun e => by injection e with e; have := h.hb; have := h.hq; omega), hq, h.ed.offt h.qx hg, own_offt h.jn h.qx (by decide) hg, h.fr, h.bel.grown hg h.bel.size (fun g hg' => by injection hg' with hg'; have := h.hq; omega), h.hq, h.hb, h.ju, Nat.le_trans h.hhi hg.size, h.hlo⟩
/-- one more edit, and its place in the box -/
theorem Jst.edit {W1 W W2 : World} {B Q hi : Nat} {v0 v9 : Value} {cur : Int} {F : List Er} {jv : Value} {J : List UInt8} {r : Er} (h : Jst W1 W B Q hi v0 cur F jv J) (h1 : Wb W hi W.heap.size (.slice r.p1 r.o r.c1) r.O) (h2 : Wb W hi W.heap.size (.slice r.p2 r.n r.c2) r.N) (hf : Far (.slice r.p1 r.o r.c1) (.slice r.p2 r.n r.c2)) (b1 : r.o ≤ 140737488355328) (b2 : r.n ≤ 140737488355328)
    (hg : W.grownBy W2 v0.ownBlock) (hv : W2.ownsRow W1.heap.size 65 3 v9 (F.length + 1) (ecs F ++ r.cs.toList)) :
    Blk W2 Q 35 (ef7 v0 cur false false (.slice none 0 0) 0 false) ∧ ∀ W3 : World, W2.grownBy W3 (some Q) → Blk W3 Q 35 (ef7 v9 cur false false (.slice none 0 0) 0 false) → Jst W1 W3 B Q W3.heap.size v9 cur (F ++ [r]) jv J := by
  have q2 := h.qx.off2 hg (blk_ne h.qx h.ed.row (by decide))
  have b2' := h.bx.off2 hg (blk_ne h.bx h.ed.row (by decide))
  have e2 := h.ed.snoc2 h.hhi h1 h2 hf b1 b2 hg hv h.hlo
  have j2 : W2.ownsRow W1.heap.size 5 1 jv J.length (bv J) := own_same h.jn (fun g h3 h4 => hg.block g h4 (fun e => far_type h.jn h.ed.row (by decide) g h3 e.symm))
  have bel2 := h.bel.grown hg h.bel.size (fun g hg' => (h.ed.row.lt g hg').1)
  refine ⟨q2, fun W3 hg3 hq3 => ⟨b2'.off2 hg3 (fun e => by injection e with e; have := h.hb; have := h.hq; omega), hq3, (e2.offt q2 hg3).wide (Nat.le_refl _) hg3.size, own_offt j2 q2 (by decide) hg3, fun k x hx => ?_, bel2.grown hg3 bel2.size (fun g hg' => by injection hg' with hg'; have := h.hq; omega), h.hq, h.hb, fun g hg' => ?_, Nat.le_refl _, Nat.le_trans bel2.size hg3.size⟩⟩
  · rw [tes_snoc] at hx
    have hnew : ∀ u l, Wb W hi W.heap.size u l → Far jv u := fun u l hu g h3 h4 => by
      have := h.ju g h3
      have := (hu.up h4).1
      omega
    rcases snoc2_at hx with e | ⟨_, rfl⟩ | ⟨_, rfl⟩
    · exact h.fr k x e
    · exact hnew _ _ h1
    · exact hnew _ _ h2
  · have := h.ju g hg'
    have := h.hhi
    have := hg.size
    have := hg3.size
    omega
/-- the line grows -/
theorem Jst.join {W1 W W' : World} {B Q hi m : Nat} {v0 : Value} {cur : Int} {F : List Er} {jv jw : Value} {J X : List UInt8} (h : Jst W1 W B Q hi v0 cur F jv J) (hX : X.length = m) (ho : W'.ownsRow W1.heap.size 5 1 jw (J.length + m) (bv J ++ bv X)) (hg : W.grownBy W' jv.ownBlock) (hfr : jw.ownBlock = jv.ownBlock ∨ ∃ q, jw.ownBlock = some q ∧ W.heap.size ≤ q) : Jst W1 W' B Q W'.heap.size v0 cur F jw (J ++ X) := by
  have hs := hg.size
  have hh := h.hhi
  refine ⟨h.bx.off2 hg (blk_ne h.bx h.jn (by decide)), h.qx.off2 hg (blk_ne h.qx h.jn (by decide)), (h.ed.offj hg h.jn h.fr).wide (Nat.le_refl _) (by omega), by rw [List.length_append, hX, bv_append]; exact ho, fun k x hx g h3 h4 => ?_, h.bel.grown hg h.bel.size (fun g hg' => (h.jn.lt g hg').1), h.hq, h.hb, fun g hg' => (ho.lt g hg').2, Nat.le_refl _, Nat.le_trans h.bel.size hs⟩
  rcases hfr with e | ⟨q, e, hq⟩
  · exact h.fr k x hx g (by rw [← e]; exact h3) h4
  · rw [e] at h3
    injection h3 with h3
    have := ((h.ed.tx k x hx).up h4).2.1
    omega
/-- texts do not lie in an effect's box -/
theorem Tx.offe {W W' : World} {a : Option Addr} {n c p : Nat} {l : List UInt8} {v tv : Value} {cur how : Int} {set lin typ : Bool} (h : Tx W a n c l) (hp : Blk W p 35 (ef7 v cur set lin tv how typ)) (hv : ∀ z, v ≠ .int .u8 z) (ht : ∀ z, tv ≠ .int .u8 z) (hg : W.grownBy W' (some p)) : Tx W' a n c l := by
  refine ⟨h.len, h.cap, h.big, h.nil, fun b hb j hj => ?_⟩
  have h1 := h.cells b hb j hj
  have hne : (b.add j).block ≠ p := fun e => by
    have hs := World.cell?_spot h1
    generalize b.add j = d at *
    obtain ⟨bb, oo, ss⟩ := d
    dsimp only at e hs
    subst e hs
    have hc := h1
    rw [cell_of_row W bb oo _ 35 (0, 0) hp] at hc
    match oo, hc with
    | 0, hc => simp [ef7] at hc; exact hv _ hc
    | 1, hc => simp [ef7] at hc
    | 2, hc => simp [ef7] at hc
    | 3, hc => simp [ef7] at hc
    | 4, hc => simp [ef7] at hc; exact ht _ hc
    | 5, hc => simp [ef7] at hc
    | 6, hc => simp [ef7] at hc
    | k + 7, hc => simp [ef7] at hc
  rw [World.cell?_of_block (hg.block _ (lt_of_cell h1) (by simpa using hne))]
  exact h1
theorem ow_ape {o : Oper} {a : Act} {w : World} {K : Act → World → Prop} {Q : Exit → Act → World → Prop} (d s : Operand)
    (ho : o.op = .call { callee := .builtin .append, args := #[d, s], argTypes := #[31, 31] }) (v u : Value) (hd : a.eval d = v) (hs : a.eval s = u) {v' : Value} {w' : World}
    (hr : ∀ ty, (Builtin.append_ #[31, 31] ty #[v, u]).run Tryz.prog w = .ok v' w') (h : K (a.put o.dst v') w') : Oper.wp Tryz.prog o a w K Q := by
  unfold Oper.wp execOp
  simp only [ho, resolve, invoke, builtin, Sem.run_bind, Sem.run_pure, Result.andThen_ok, List.map_toArray, List.map_cons, List.map_nil, hd, hs, hr]
  exact h
end Go.Proofs.YtppefcnopkmhbaaGreatDoor
