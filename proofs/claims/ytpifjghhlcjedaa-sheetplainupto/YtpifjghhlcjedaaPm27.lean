/- asked, a part. -/
import Derived.Test.YtpifjghhlcjedaaPm26
import Derived.Test.YtpifjghhlcjedaaPm24
import Derived.Deep.RegionHeld3
namespace Go.Proofs.Ytpifjghhlcjedaa
open Go.RowKit

set_option maxRecDepth 8000 in
set_option maxHeartbeats 2000000 in
theorem asked3_no (sb : Nat) (T : List UInt8) (ta : Option Addr) (tc : Nat) (x y : Int) (vp ve : Value) (W : World) (hQ : Hid (Aq W sb T)) (hx : x < 0 ∨ y < x ∨ (T.length : Int) < y) :
    Calls Try.prog 27 #[.pointer (some ⟨sb, 0, none⟩), .slice ta T.length tc, .agg #[.int .i64 3, .int .i64 x, .int .i64 y, vp, ve]] W fun e' w' => e' = .returned (.bool true) ∧ Below W.heap.size W w' := by
  have HB := hid (fun (X : Obj) => hQ.out.slno x y hx _ (bAlloc (Below.refl _ _) X))
  have hd : Hid (decide (x < 0) = true ∨ (decide (x < 0) = false ∧ decide (y < x) = true) ∨ (decide (x < 0) = false ∧ decide (y < x) = false ∧ decide ((T.length : Int) < y) = true)) := by
    unfold Hid; by_cases h : x < 0
    · simp [h]
    · by_cases h' : y < x
      · simp [h, h']
      · right; right; simp; omega
  clear hx
  go_enter Try.func27, Try.ntmps27
  go_wp2_with fail
  refine (HB.out _).mono ?_
  rintro e9 w9 ⟨rfl, b9⟩
  obtain ⟨c1, c2⟩ := qbox b9
  have B9 := hid (bT (bAlloc (Below.refl _ _) _) b9)
  clear b9
  rcases hd.out with h | ⟨h, h'⟩ | ⟨h, h', h''⟩
  all_goals
    clear hd
    go_wp2
    go_ret
    exact ⟨rfl, B9.out⟩

/-- a part of what can be read can be read -/
theorem rd_part {W : World} {ta : Option Addr} {c x y : Nat} {T : List UInt8} (h : Ab.Rd W (.slice ta T.length c) T) (hxy : x ≤ y) (hy : y ≤ T.length) (hne : ¬ c = x) (c' : Nat) : Ab.Rd W (.slice (Option.map (fun a => a.add x) ta) (y - x) c') ((T.drop x).take (y - x)) := by
  have hl : ((T.drop x).take (y - x)).length = y - x := by simp; omega
  rcases h with ⟨h0, _⟩ | ⟨ad, c2, h0, hcl⟩
  · simp only [Value.slice.injEq] at h0
    omega
  · simp only [Value.slice.injEq] at h0
    obtain ⟨rfl, -, -⟩ := h0
    refine .inr ⟨ad.add x, c', by rw [hl]; rfl, fun j u hu => ?_⟩
    have hj : j < y - x := by
      rcases Nat.lt_or_ge j (y - x) with h | h
      · exact h
      · rw [List.getElem?_eq_none (by simp [Ab.bv]; omega)] at hu; cases hu
    have hsome : ∀ j (u : Value), (Ab.bv T)[j]? = some u → W.cell? (ad.add j) = some u := hcl
    obtain ⟨g, o, s⟩ := ad
    have h0 := hcl 0 (.int .u8 ((b8 T 0).toNat : Int)) (by simp [Ab.bv, b8, List.getD, show 0 < T.length by omega])
    have hs : s = none := by simpa [Addr.add] using World.cell?_spot h0
    subst hs
    have h1 : (Ab.bv T)[x + j]? = some u := by
      simp only [Ab.bv, List.map_take, List.map_drop, List.getElem?_take, List.getElem?_drop] at hu ⊢
      rwa [if_pos hj] at hu
    have h2 := hcl _ _ h1
    rw [add_at] at h2
    rw [add_at, add_at, Nat.add_assoc]
    exact h2
theorem rd_part0 {W : World} {ta : Option Addr} {c x y : Nat} {T : List UInt8} (h : Ab.Rd W (.slice ta T.length c) T) (hxy : x ≤ y) (hy : y ≤ T.length) (hc : T.length ≤ c) (he : c = x) : Ab.Rd W (.slice ta (y - x) 0) ((T.drop x).take (y - x)) := by
  subst he
  obtain rfl : y = c := by omega
  rw [Nat.sub_self, List.take_zero]
  rcases h with ⟨h0, _⟩ | ⟨ad, c2, h0, hcl⟩
  · simp only [Value.slice.injEq] at h0
    obtain ⟨rfl, -, -⟩ := h0
    exact .inl ⟨rfl, rfl⟩
  · simp only [Value.slice.injEq] at h0
    obtain ⟨rfl, -, -⟩ := h0
    exact .inr ⟨ad, 0, rfl, fun j u hu => by simp [Ab.bv] at hu⟩

set_option maxRecDepth 8000 in
set_option maxHeartbeats 2000000 in
theorem asked3_yes (sb : Nat) (T : List UInt8) (ta : Option Addr) (tc x y : Nat) (vp ve : Value) (W : World) (hQ : Hid (Aq W sb T)) (hR : Hid (Ab.Rd W (.slice ta T.length tc) T)) (hz : T.length ≤ 1048576) (hc : T.length ≤ tc) (hxy : x ≤ y) (hy : y ≤ T.length) :
    Calls Try.prog 27 #[.pointer (some ⟨sb, 0, none⟩), .slice ta T.length tc, .agg #[.int .i64 3, .int .i64 (x : Int), .int .i64 (y : Int), vp, ve]] W fun e' w' => e' = .returned (.bool true) ∧ Below W.heap.size W w' := by
  have HB := hid (fun (X : Obj) => hQ.out.slyes x y hxy hy _ (bAlloc (Below.refl _ _) X))
  have h1 : (0 : Int) ≤ (x : Int) := by omega
  have h2 : (x : Int) ≤ (y : Int) := by omega
  have h3 : (y : Int) ≤ (T.length : Int) := by omega
  have h4 : (y : Int) ≤ (tc : Int) := by omega
  go_enter Try.func27, Try.ntmps27
  go_wp2_with fail
  refine (HB.out _).mono ?_
  rintro e9 w9 ⟨ao, c9, rfl, o9, b9⟩
  obtain ⟨c1, c2⟩ := qbox b9
  have B9 := hid (bT (bAlloc (Below.refl _ _) _) b9)
  have hl : ((T.drop x).take (y - x)).length = y - x := by simp; omega
  have R9 : Hid (Ab.Rd w9 (.slice ao (y - x) c9) ((T.drop x).take (y - x))) := by
    unfold Hid
    exact Ab.own_rd (by rw [hl]; exact o9)
  have R8 := hid (hR.out.keep B9.out)
  clear b9 o9 hl
  by_cases htx : tc = x
  · have P0 := hid (rd_part0 R8.out hxy hy hc htx)
    go_wp2_with fail
    refine (same_yes _ _ _ w9 R9.out P0.out).mono ?_
    rintro e8 w8 ⟨rfl, b8⟩
    have B8 := hid (bT B9.out b8)
    clear b8
    go_wp2
    go_ret
    exact ⟨rfl, B8.out⟩
  · have P1 := hid (rd_part R8.out hxy hy htx (tc - x))
    go_wp2_with fail
    refine (same_yes _ _ _ w9 R9.out P1.out).mono ?_
    rintro e8 w8 ⟨rfl, b8⟩
    have B8 := hid (bT B9.out b8)
    clear b8
    go_wp2
    go_ret
    exact ⟨rfl, B8.out⟩
end Go.Proofs.Ytpifjghhlcjedaa

/- For quoinlaw04.plain: append in a region that draws, parts of a text. -/
namespace Go.Proofs.Ytpifjghhlcjedaa
open Go.RowKit Go.Shelf

/-- append in a region that draws -/
theorem step_app {w : World} {ops : Array Oper} {o : Oper} {a : Act} {K : Act → World → Prop} {Q : Exit → Act → World → Prop} {E : Prop} (hgd : o.guard = none) (s x : Operand) (t : Nat)
    (ho : o.op = .call { callee := .builtin .append, args := #[s, x], argTypes := #[t, t] })
    (base e : Nat) (i : TypeInfo) (z : Value) (size bytes : Nat) (ht : Try.prog.underlying t = some (.slice e)) (hi : Try.prog.info? e = some i) (hz : i.zero = some z) (hsize : i.size = size) (hby : i.bytes = bytes) (hzs : z.cells.size = size) (hsz : 0 < size)
    (v : Value) (n : Nat) (xs : List Value) (hs : a.eval s = v) (hown : w.ownsRow base e size v n xs)
    (u : Value) (m : Nat) (news : List Value) (hx : a.eval x = u) (hsrc : Rk.Srv w u m news) (hl : news.length = m * size)
    (h1 : ∀ u ∈ news, u.oneCell' = true) (h63 : n + m ≤ maxLen) (hb : (n + m) * bytes ≤ 140737488355328) (hbase : base ≤ w.heap.size)
    (h : ∀ v' w', w'.ownsRow base e size v' (n + m) (xs ++ news) → w.grownBy w' v.ownBlock → (v'.ownBlock = v.ownBlock ∨ ∃ q, v'.ownBlock = some q ∧ w.heap.size ≤ q) → K (a.put o.dst v') w') :
    if Region.wanted o (yielded ops a.tmps) = true then Oper.wp Try.prog o a w K Q else E := by
  have hw : Region.wanted o (yielded ops a.tmps) = true := by simp [Region.wanted, hgd]
  rw [if_pos hw]
  rcases hsrc with ⟨hu, h0, h2⟩ | ⟨ad, c, hu, hcell⟩
  · subst hu h0 h2
    have hrun := run_append_owned_none (P := Try.prog) (w := w) base t o.type e i size ht hi v n xs hown
    unfold Oper.wp
    simp [execOp, ho, resolve, invoke, builtin, hs, hx, hrun, Result.andThen]
    exact h v w (by simpa using hown) ⟨rfl, rfl, rfl, Nat.le_refl _, fun _ _ _ => rfl⟩ (.inl rfl)
  · subst hu
    obtain ⟨v', w', hr, h2, h3, h4, h5⟩ := run_append_own_at (P := Try.prog) w base t o.type e i z size bytes ht hi hz hsize hby hzs hsz v n xs hown ad m c news hl hcell h1 h63 hb hbase
    unfold Oper.wp execOp
    simp only [ho, resolve, invoke, builtin, Sem.run_bind, Sem.run_pure, Result.andThen_ok, List.map_toArray, List.map_cons, List.map_nil, hs, hx, hr]
    refine h v' w' h2 h3 ?_
    rcases h5 with e | e
    · exact .inl e
    · exact .inr ⟨_, e, Nat.le_refl _⟩


theorem rd_srv {W : World} {v : Value} {l : List UInt8} (h : Ab.Rd W v l) : Rk.Srv W v l.length (Ab.bv l) := by
  rcases h with ⟨rfl, rfl⟩ | ⟨ad, c, rfl, hc⟩
  · exact .inl ⟨rfl, rfl, rfl⟩
  · exact .inr ⟨ad, c, rfl, hc⟩
theorem rd_srv' {W : World} {v : Value} {l : List UInt8} {n : Nat} (h : Ab.Rd W v l) (hn : l.length = n) : Rk.Srv W v n (Ab.bv l) := hn ▸ rd_srv h
theorem own_to {W : World} {base e size n n' : Nat} {v : Value} {xs xs' : List Value} (h : W.ownsRow base e size v n xs) (hn : n = n') (hx : xs = xs') : W.ownsRow base e size v n' xs' := by subst hn hx; exact h
/-- the head of what can be read -/
theorem rd_head {W : World} {ta : Option Addr} {c x : Nat} {T : List UInt8} (h : Ab.Rd W (.slice ta T.length c) T) (hx : x ≤ T.length) : Ab.Rd W (.slice ta x c) (T.take x) := by
  have hl : (T.take x).length = x := by simp; omega
  rcases h with ⟨h0, rfl⟩ | ⟨ad, c2, h0, hcl⟩
  · simp only [Value.slice.injEq] at h0
    obtain ⟨rfl, -, rfl⟩ := h0
    obtain rfl : x = 0 := by simpa using hx
    exact .inl ⟨rfl, rfl⟩
  · simp only [Value.slice.injEq] at h0
    obtain ⟨rfl, -, -⟩ := h0
    refine .inr ⟨ad, c, by rw [hl], fun j u hu => ?_⟩
    refine hcl j u ?_
    simp only [Ab.bv, List.map_take, List.getElem?_take] at hu ⊢
    split at hu
    · exact hu
    · cases hu
theorem rd_tail0 {W : World} {ta : Option Addr} {c x : Nat} {T : List UInt8} (h : Ab.Rd W (.slice ta T.length c) T) (hx : x ≤ T.length) (hc : T.length ≤ c) (he : c = x) : Ab.Rd W (.slice ta (T.length - x) 0) (T.drop x) := by
  have := rd_part0 h hx (Nat.le_refl _) hc he
  rwa [List.take_of_length_le (by simp)] at this
theorem rd_tail00 {W : World} {ta : Option Addr} {c x : Nat} {T : List UInt8} (h : Ab.Rd W (.slice ta T.length c) T) (hx : x ≤ T.length) (hc : T.length ≤ c) (he : c = x) : Ab.Rd W (.slice ta 0 0) (T.drop x) := by
  have := rd_tail0 h hx hc he
  rwa [show T.length - x = 0 by omega] at this
theorem rd_tail {W : World} {ta : Option Addr} {c x : Nat} {T : List UInt8} (h : Ab.Rd W (.slice ta T.length c) T) (hx : x ≤ T.length) (he : ¬ c = x) (c' : Nat) : Ab.Rd W (.slice (Option.map (fun a => a.add x) ta) (T.length - x) c') (T.drop x) := by
  have := rd_part h hx (Nat.le_refl _) he c'
  rwa [List.take_of_length_le (by simp)] at this
end Go.Proofs.Ytpifjghhlcjedaa

/- quoinlaw04.plain: a part taken out. -/
namespace Go.Proofs.Ytpifjghhlcjedaa
open Go.RowKit Go.Shelf

set_option maxRecDepth 8000 in
set_option maxHeartbeats 4000000 in
theorem plain1_yes (T : List UInt8) (ta : Option Addr) (tc x y : Nat) (vp ve : Value) (W : World) (hR : Hid (Ab.Rd W (.slice ta T.length tc) T)) (hz : T.length ≤ 1048576) (hc : T.length ≤ tc) (hxy : x ≤ y) (hy : y ≤ T.length) :
    Calls Try.prog 28 #[.slice ta T.length tc, .agg #[.int .i64 1, .int .i64 (x : Int), .int .i64 (y : Int), vp, ve]] W fun e' w' => ∃ v, e' = .returned (.tuple #[v, .bool true]) ∧ w'.ownsRow W.heap.size 5 1 v (T.take x ++ T.drop y).length (Ab.bv (T.take x ++ T.drop y)) ∧ Below W.heap.size W w' := by
  obtain ⟨i5, hi5, hz5, hs5, hb5⟩ := info_parts Ab.info5
  have h1 : (0 : Int) ≤ (x : Int) := by omega
  have h2 : (x : Int) ≤ (y : Int) := by omega
  have h3 : (y : Int) ≤ (T.length : Int) := by omega
  have h4 : (y : Int) ≤ (tc : Int) := by omega
  have h5 : (x : Int) ≤ (tc : Int) := by omega
  have h6 : (T.length : Int) ≤ (tc : Int) := by omega
  by_cases htx : tc = y
  · subst htx
    go_enter Try.func28, Try.ntmps28
    go_upto_region 9 with fail
    have hlt : W.heap.size < (W.alloc (.cells #[.int .i64 1, .int .i64 (x : Int), .int .i64 (tc : Int), vp, ve] 67)).heap.size := by simp
    have q0 : (W.alloc (.cells #[.int .i64 1, .int .i64 (x : Int), .int .i64 (tc : Int), vp, ve] 67)).cell? ⟨W.heap.size, 1, none⟩ = some (.int .i64 (x : Int)) := by simp
    have q1 : (W.alloc (.cells #[.int .i64 1, .int .i64 (x : Int), .int .i64 (tc : Int), vp, ve] 67)).cell? ⟨W.heap.size, 2, none⟩ = some (.int .i64 (tc : Int)) := by simp
    have B1 := hid (bAlloc (Below.refl W.heap.size W) (.cells #[.int .i64 1, .int .i64 (x : Int), .int .i64 (tc : Int), vp, ve] 67))
    generalize hW1 : W.alloc (.cells #[.int .i64 1, .int .i64 (x : Int), .int .i64 (tc : Int), vp, ve] 67) = W1 at *
    clear hW1
    have R1 := hid (rd_head (x := x) (hR.out.keep B1.out) (by omega))
    have R2 := hid (rd_tail00 (x := tc) (hR.out.keep B1.out) (by omega) hc rfl)
    have hl1 : Hid ((T.take x).length = x) := by unfold Hid; rw [List.length_take]; omega
    have hl2 : Hid ((T.drop tc).length = 0) := by unfold Hid; rw [List.length_drop]; omega
    have hS2 : Hid (∀ {W' : World}, Below W1.heap.size W1 W' → W'.cell? ⟨W.heap.size, 1, none⟩ = some (.int .i64 (x : Int)) ∧ W'.cell? ⟨W.heap.size, 2, none⟩ = some (.int .i64 (tc : Int))) := by
      unfold Hid; intro W' hb; exact ⟨cell_later hb q0, cell_later hb q1⟩
    have BA := hid (bAlloc (Below.refl W1.heap.size W1) (.cells #[] 5)).drew
    have EA : Hid ((W1.alloc (.cells #[] 5)).drew.ownsRow W1.heap.size 5 1 (.slice (some ⟨W1.heap.size, 0, none⟩) 0 0) 0 []) := Ab.own_keep (World.ownsRow_made W1 #[] 0 (Nat.le_refl _) (by decide) rfl) (Below.refl _ _).drew
    have sD := hS2.out (Below.refl W1.heap.size W1).drew
    have sA := hS2.out BA.out
    clear q0 q1
    go_region_held3 (fun w' => w'.cell? ⟨W.heap.size, 1, none⟩ = some (.int .i64 (x : Int)) ∧ w'.cell? ⟨W.heap.size, 2, none⟩ = some (.int .i64 (tc : Int))) (with_reducible assumption)
      (first
        | (refine step_app (by rfl) (.tmp 58) (.tmp 62) 61 (by rfl) W1.heap.size 5 i5 (.int .u8 0) 1 1 Try.underlying61 hi5 hz5 hs5 hb5 (by rfl) (by decide) (.slice (some ⟨W1.heap.size, 0, none⟩) 0 0) 0 [] (by rfl) EA.out (.slice ta x tc) (x) (Ab.bv (T.take x)) (by rfl) (rd_srv' (R1.out.keep BA.out) hl1.out) (by have := hl1.out; rw [Ab.bv_length]; omega) (Ab.bv_one _) (by unfold maxLen; omega) (by omega) BA.out.size ?_
           intro v5 W5 hO5 hG5 _
           have O5 : Hid (W5.ownsRow W1.heap.size 5 1 v5 x (Ab.bv (T.take x))) := (by unfold Hid; simpa using hO5)
           have B5 : Hid (Below W1.heap.size W1 W5) := BA.out.grown hG5 BA.out.size (fun k hk => by simp [Value.ownBlock] at hk; omega)
           obtain ⟨a5, c5, e5⟩ := own_shape O5.out
           subst e5
           have s5 := hS2.out B5.out
           clear hO5 hG5)
        | (refine step_app (by rfl) (.tmp 63) (.tmp 67) 61 (by rfl) W1.heap.size 5 i5 (.int .u8 0) 1 1 Try.underlying61 hi5 hz5 hs5 hb5 (by rfl) (by decide) (.slice a5 x c5) x (Ab.bv (T.take x)) (by rfl) O5.out (.slice ta 0 0) (0) (Ab.bv (T.drop tc)) (by rfl) (rd_srv' (R2.out.keep B5.out) hl2.out) (by have := hl2.out; rw [Ab.bv_length]; omega) (Ab.bv_one _) (by unfold maxLen; omega) (by omega) B5.out.size ?_
           intro v6 W6 hO6 hG6 _
           have O6 : Hid (W6.ownsRow W1.heap.size 5 1 v6 (x + (0)) ((Ab.bv (T.take x)) ++ Ab.bv (T.drop tc))) := hO6
           have B6 : Hid (Below W1.heap.size W1 W6) := B5.out.grown hG6 B5.out.size (fun k hk => (O5.out.lt k hk).1)
           have s6 := hS2.out B6.out
           clear hO6 hG6)
        | fail)
    go_wp2
    exact bodyPost_ret (v := .tuple #[v6, .bool true]) (by simp [results, Try.results28, go_sem]) rfl ⟨_, rfl, own_to (Rk.own_lower O6.out B1.out.size) (by have a1 := hl1.out; have a2 := hl2.out; first | omega | (rw [List.length_append]; omega)) (by simp [Ab.bv]), Rk.bT B1.out B6.out⟩
  · go_enter Try.func28, Try.ntmps28
    go_upto_region 9 with fail
    have hlt : W.heap.size < (W.alloc (.cells #[.int .i64 1, .int .i64 (x : Int), .int .i64 (y : Int), vp, ve] 67)).heap.size := by simp
    have q0 : (W.alloc (.cells #[.int .i64 1, .int .i64 (x : Int), .int .i64 (y : Int), vp, ve] 67)).cell? ⟨W.heap.size, 1, none⟩ = some (.int .i64 (x : Int)) := by simp
    have q1 : (W.alloc (.cells #[.int .i64 1, .int .i64 (x : Int), .int .i64 (y : Int), vp, ve] 67)).cell? ⟨W.heap.size, 2, none⟩ = some (.int .i64 (y : Int)) := by simp
    have B1 := hid (bAlloc (Below.refl W.heap.size W) (.cells #[.int .i64 1, .int .i64 (x : Int), .int .i64 (y : Int), vp, ve] 67))
    generalize hW1 : W.alloc (.cells #[.int .i64 1, .int .i64 (x : Int), .int .i64 (y : Int), vp, ve] 67) = W1 at *
    clear hW1
    have R1 := hid (rd_head (x := x) (hR.out.keep B1.out) (by omega))
    have R2 := hid (rd_tail (x := y) (hR.out.keep B1.out) (by omega) htx (tc - y))
    have hl1 : Hid ((T.take x).length = x) := by unfold Hid; rw [List.length_take]; omega
    have hl2 : Hid ((T.drop y).length = T.length - y) := by unfold Hid; rw [List.length_drop]
    have hS2 : Hid (∀ {W' : World}, Below W1.heap.size W1 W' → W'.cell? ⟨W.heap.size, 1, none⟩ = some (.int .i64 (x : Int)) ∧ W'.cell? ⟨W.heap.size, 2, none⟩ = some (.int .i64 (y : Int))) := by
      unfold Hid; intro W' hb; exact ⟨cell_later hb q0, cell_later hb q1⟩
    have BA := hid (bAlloc (Below.refl W1.heap.size W1) (.cells #[] 5)).drew
    have EA : Hid ((W1.alloc (.cells #[] 5)).drew.ownsRow W1.heap.size 5 1 (.slice (some ⟨W1.heap.size, 0, none⟩) 0 0) 0 []) := Ab.own_keep (World.ownsRow_made W1 #[] 0 (Nat.le_refl _) (by decide) rfl) (Below.refl _ _).drew
    have sD := hS2.out (Below.refl W1.heap.size W1).drew
    have sA := hS2.out BA.out
    clear q0 q1
    go_region_held3 (fun w' => w'.cell? ⟨W.heap.size, 1, none⟩ = some (.int .i64 (x : Int)) ∧ w'.cell? ⟨W.heap.size, 2, none⟩ = some (.int .i64 (y : Int))) (with_reducible assumption)
      (first
        | (refine step_app (by rfl) (.tmp 58) (.tmp 62) 61 (by rfl) W1.heap.size 5 i5 (.int .u8 0) 1 1 Try.underlying61 hi5 hz5 hs5 hb5 (by rfl) (by decide) (.slice (some ⟨W1.heap.size, 0, none⟩) 0 0) 0 [] (by rfl) EA.out (.slice ta x tc) (x) (Ab.bv (T.take x)) (by rfl) (rd_srv' (R1.out.keep BA.out) hl1.out) (by have := hl1.out; rw [Ab.bv_length]; omega) (Ab.bv_one _) (by unfold maxLen; omega) (by omega) BA.out.size ?_
           intro v5 W5 hO5 hG5 _
           have O5 : Hid (W5.ownsRow W1.heap.size 5 1 v5 x (Ab.bv (T.take x))) := (by unfold Hid; simpa using hO5)
           have B5 : Hid (Below W1.heap.size W1 W5) := BA.out.grown hG5 BA.out.size (fun k hk => by simp [Value.ownBlock] at hk; omega)
           obtain ⟨a5, c5, e5⟩ := own_shape O5.out
           subst e5
           have s5 := hS2.out B5.out
           clear hO5 hG5)
        | (refine step_app (by rfl) (.tmp 63) (.tmp 67) 61 (by rfl) W1.heap.size 5 i5 (.int .u8 0) 1 1 Try.underlying61 hi5 hz5 hs5 hb5 (by rfl) (by decide) (.slice a5 x c5) x (Ab.bv (T.take x)) (by rfl) O5.out (.slice (Option.map (fun a => a.add y) ta) (T.length - y) (tc - y)) (T.length - y) (Ab.bv (T.drop y)) (by rfl) (rd_srv' (R2.out.keep B5.out) hl2.out) (by have := hl2.out; rw [Ab.bv_length]; omega) (Ab.bv_one _) (by unfold maxLen; omega) (by omega) B5.out.size ?_
           intro v6 W6 hO6 hG6 _
           have O6 : Hid (W6.ownsRow W1.heap.size 5 1 v6 (x + (T.length - y)) ((Ab.bv (T.take x)) ++ Ab.bv (T.drop y))) := hO6
           have B6 : Hid (Below W1.heap.size W1 W6) := B5.out.grown hG6 B5.out.size (fun k hk => (O5.out.lt k hk).1)
           have s6 := hS2.out B6.out
           clear hO6 hG6)
        | fail)
    go_wp2
    exact bodyPost_ret (v := .tuple #[v6, .bool true]) (by simp [results, Try.results28, go_sem]) rfl ⟨_, rfl, own_to (Rk.own_lower O6.out B1.out.size) (by have a1 := hl1.out; have a2 := hl2.out; first | omega | (rw [List.length_append]; omega)) (by simp [Ab.bv]), Rk.bT B1.out B6.out⟩
end Go.Proofs.Ytpifjghhlcjedaa

/- quoinlaw04.plain: bytes put in. -/
namespace Go.Proofs.Ytpifjghhlcjedaa
open Go.RowKit Go.Shelf

set_option maxRecDepth 8000 in
set_option maxHeartbeats 4000000 in
theorem plain0_yes (T p : List UInt8) (ta ap : Option Addr) (tc cp x : Nat) (y : Int) (ve : Value) (W : World) (hR : Hid (Ab.Rd W (.slice ta T.length tc) T)) (hP : Hid (Ab.Rd W (.slice ap p.length cp) p)) (hz : T.length ≤ 1048576) (hz2 : p.length ≤ 1048576) (hc : T.length ≤ tc) (hx : x ≤ T.length) :
    Calls Try.prog 28 #[.slice ta T.length tc, .agg #[.int .i64 0, .int .i64 (x : Int), .int .i64 y, .slice ap p.length cp, ve]] W fun e' w' => ∃ v, e' = .returned (.tuple #[v, .bool true]) ∧ w'.ownsRow W.heap.size 5 1 v (T.take x ++ (p ++ T.drop x)).length (Ab.bv (T.take x ++ (p ++ T.drop x))) ∧ Below W.heap.size W w' := by
  obtain ⟨i5, hi5, hz5, hs5, hb5⟩ := info_parts Ab.info5
  have h1 : (0 : Int) ≤ (x : Int) := by omega
  have h3 : (x : Int) ≤ (T.length : Int) := by omega
  have h5 : (x : Int) ≤ (tc : Int) := by omega
  have h6 : (T.length : Int) ≤ (tc : Int) := by omega
  by_cases htx : tc = x
  · subst htx
    go_enter Try.func28, Try.ntmps28
    go_upto_region 5 with fail
    have hlt : W.heap.size < (W.alloc (.cells #[.int .i64 0, .int .i64 (tc : Int), .int .i64 y, .slice ap p.length cp, ve] 67)).heap.size := by simp
    have q0 : (W.alloc (.cells #[.int .i64 0, .int .i64 (tc : Int), .int .i64 y, .slice ap p.length cp, ve] 67)).cell? ⟨W.heap.size, 1, none⟩ = some (.int .i64 (tc : Int)) := by simp
    have q1 : (W.alloc (.cells #[.int .i64 0, .int .i64 (tc : Int), .int .i64 y, .slice ap p.length cp, ve] 67)).cell? ⟨W.heap.size, 3, none⟩ = some (.slice ap p.length cp) := by simp
    have B1 := hid (bAlloc (Below.refl W.heap.size W) (.cells #[.int .i64 0, .int .i64 (tc : Int), .int .i64 y, .slice ap p.length cp, ve] 67))
    generalize hW1 : W.alloc (.cells #[.int .i64 0, .int .i64 (tc : Int), .int .i64 y, .slice ap p.length cp, ve] 67) = W1 at *
    clear hW1
    have R1 := hid (rd_head (x := tc) (hR.out.keep B1.out) (by omega))
    have R2 := hid (hP.out.keep B1.out)
    have R3 := hid (rd_tail00 (x := tc) (hR.out.keep B1.out) (by omega) hc rfl)
    have hl1 : Hid ((T.take tc).length = tc) := by unfold Hid; rw [List.length_take]; omega
    have hl2 : Hid (p.length = p.length) := rfl
    have hl3 : Hid ((T.drop tc).length = 0) := by unfold Hid; rw [List.length_drop]; omega
    have hS2 : Hid (∀ {W' : World}, Below W1.heap.size W1 W' → W'.cell? ⟨W.heap.size, 1, none⟩ = some (.int .i64 (tc : Int)) ∧ W'.cell? ⟨W.heap.size, 3, none⟩ = some (.slice ap p.length cp)) := by
      unfold Hid; intro W' hb; exact ⟨cell_later hb q0, cell_later hb q1⟩
    have BA := hid (bAlloc (Below.refl W1.heap.size W1) (.cells #[] 5)).drew
    have EA : Hid ((W1.alloc (.cells #[] 5)).drew.ownsRow W1.heap.size 5 1 (.slice (some ⟨W1.heap.size, 0, none⟩) 0 0) 0 []) := Ab.own_keep (World.ownsRow_made W1 #[] 0 (Nat.le_refl _) (by decide) rfl) (Below.refl _ _).drew
    have sD := hS2.out (Below.refl W1.heap.size W1).drew
    have sA := hS2.out BA.out
    clear q0 q1
    go_region_held3 (fun w' => w'.cell? ⟨W.heap.size, 1, none⟩ = some (.int .i64 (tc : Int)) ∧ w'.cell? ⟨W.heap.size, 3, none⟩ = some (.slice ap p.length cp)) (with_reducible assumption)
      (first
        | (refine step_app (by rfl) (.tmp 24) (.tmp 28) 61 (by rfl) W1.heap.size 5 i5 (.int .u8 0) 1 1 Try.underlying61 hi5 hz5 hs5 hb5 (by rfl) (by decide) (.slice (some ⟨W1.heap.size, 0, none⟩) 0 0) 0 [] (by rfl) EA.out (.slice ta tc tc) (tc) (Ab.bv (T.take tc)) (by rfl) (rd_srv' (R1.out.keep BA.out) hl1.out) (by have := hl1.out; rw [Ab.bv_length]; omega) (Ab.bv_one _) (by unfold maxLen; omega) (by omega) BA.out.size ?_
           intro v5 W5 hO5 hG5 _
           have O5 : Hid (W5.ownsRow W1.heap.size 5 1 v5 tc (Ab.bv (T.take tc))) := (by unfold Hid; simpa using hO5)
           have B5 : Hid (Below W1.heap.size W1 W5) := BA.out.grown hG5 BA.out.size (fun k hk => by simp [Value.ownBlock] at hk; omega)
           obtain ⟨a5, c5, e5⟩ := own_shape O5.out
           subst e5
           have s5 := hS2.out B5.out
           clear hO5 hG5)
        | (refine step_app (by rfl) (.tmp 29) (.tmp 31) 61 (by rfl) W1.heap.size 5 i5 (.int .u8 0) 1 1 Try.underlying61 hi5 hz5 hs5 hb5 (by rfl) (by decide) (.slice a5 tc c5) tc (Ab.bv (T.take tc)) (by rfl) O5.out (.slice ap p.length cp) (p.length) (Ab.bv (p)) (by rfl) (rd_srv' (R2.out.keep B5.out) hl2.out) (by have := hl2.out; rw [Ab.bv_length]; omega) (Ab.bv_one _) (by unfold maxLen; omega) (by omega) B5.out.size ?_
           intro v6 W6 hO6 hG6 _
           have O6 : Hid (W6.ownsRow W1.heap.size 5 1 v6 (tc + (p.length)) ((Ab.bv (T.take tc)) ++ Ab.bv (p))) := hO6
           have B6 : Hid (Below W1.heap.size W1 W6) := B5.out.grown hG6 B5.out.size (fun k hk => (O5.out.lt k hk).1)
           obtain ⟨a6, c6, e6⟩ := own_shape O6.out
           subst e6
           have s6 := hS2.out B6.out
           clear hO6 hG6)
        | (refine step_app (by rfl) (.tmp 32) (.tmp 36) 61 (by rfl) W1.heap.size 5 i5 (.int .u8 0) 1 1 Try.underlying61 hi5 hz5 hs5 hb5 (by rfl) (by decide) (.slice a6 (tc + (p.length)) c6) (tc + (p.length)) ((Ab.bv (T.take tc)) ++ Ab.bv (p)) (by rfl) O6.out (.slice ta 0 0) (0) (Ab.bv (T.drop tc)) (by rfl) (rd_srv' (R3.out.keep B6.out) hl3.out) (by have := hl3.out; rw [Ab.bv_length]; omega) (Ab.bv_one _) (by unfold maxLen; omega) (by omega) B6.out.size ?_
           intro v7 W7 hO7 hG7 _
           have O7 : Hid (W7.ownsRow W1.heap.size 5 1 v7 ((tc + (p.length)) + (0)) (((Ab.bv (T.take tc)) ++ Ab.bv (p)) ++ Ab.bv (T.drop tc))) := hO7
           have B7 : Hid (Below W1.heap.size W1 W7) := B6.out.grown hG7 B6.out.size (fun k hk => (O6.out.lt k hk).1)
           have s7 := hS2.out B7.out
           clear hO7 hG7)
        | fail)
    go_wp2
    exact bodyPost_ret (v := .tuple #[v7, .bool true]) (by simp [results, Try.results28, go_sem]) rfl ⟨_, rfl, own_to (Rk.own_lower O7.out B1.out.size) (by have a1 := hl1.out; have a3 := hl3.out; first | omega | (rw [List.length_append, List.length_append]; omega)) (by simp [Ab.bv]), Rk.bT B1.out B7.out⟩
  · go_enter Try.func28, Try.ntmps28
    go_upto_region 5 with fail
    have hlt : W.heap.size < (W.alloc (.cells #[.int .i64 0, .int .i64 (x : Int), .int .i64 y, .slice ap p.length cp, ve] 67)).heap.size := by simp
    have q0 : (W.alloc (.cells #[.int .i64 0, .int .i64 (x : Int), .int .i64 y, .slice ap p.length cp, ve] 67)).cell? ⟨W.heap.size, 1, none⟩ = some (.int .i64 (x : Int)) := by simp
    have q1 : (W.alloc (.cells #[.int .i64 0, .int .i64 (x : Int), .int .i64 y, .slice ap p.length cp, ve] 67)).cell? ⟨W.heap.size, 3, none⟩ = some (.slice ap p.length cp) := by simp
    have B1 := hid (bAlloc (Below.refl W.heap.size W) (.cells #[.int .i64 0, .int .i64 (x : Int), .int .i64 y, .slice ap p.length cp, ve] 67))
    generalize hW1 : W.alloc (.cells #[.int .i64 0, .int .i64 (x : Int), .int .i64 y, .slice ap p.length cp, ve] 67) = W1 at *
    clear hW1
    have R1 := hid (rd_head (x := x) (hR.out.keep B1.out) (by omega))
    have R2 := hid (hP.out.keep B1.out)
    have R3 := hid (rd_tail (x := x) (hR.out.keep B1.out) (by omega) htx (tc - x))
    have hl1 : Hid ((T.take x).length = x) := by unfold Hid; rw [List.length_take]; omega
    have hl2 : Hid (p.length = p.length) := rfl
    have hl3 : Hid ((T.drop x).length = T.length - x) := by unfold Hid; rw [List.length_drop]
    have hS2 : Hid (∀ {W' : World}, Below W1.heap.size W1 W' → W'.cell? ⟨W.heap.size, 1, none⟩ = some (.int .i64 (x : Int)) ∧ W'.cell? ⟨W.heap.size, 3, none⟩ = some (.slice ap p.length cp)) := by
      unfold Hid; intro W' hb; exact ⟨cell_later hb q0, cell_later hb q1⟩
    have BA := hid (bAlloc (Below.refl W1.heap.size W1) (.cells #[] 5)).drew
    have EA : Hid ((W1.alloc (.cells #[] 5)).drew.ownsRow W1.heap.size 5 1 (.slice (some ⟨W1.heap.size, 0, none⟩) 0 0) 0 []) := Ab.own_keep (World.ownsRow_made W1 #[] 0 (Nat.le_refl _) (by decide) rfl) (Below.refl _ _).drew
    have sD := hS2.out (Below.refl W1.heap.size W1).drew
    have sA := hS2.out BA.out
    clear q0 q1
    go_region_held3 (fun w' => w'.cell? ⟨W.heap.size, 1, none⟩ = some (.int .i64 (x : Int)) ∧ w'.cell? ⟨W.heap.size, 3, none⟩ = some (.slice ap p.length cp)) (with_reducible assumption)
      (first
        | (refine step_app (by rfl) (.tmp 24) (.tmp 28) 61 (by rfl) W1.heap.size 5 i5 (.int .u8 0) 1 1 Try.underlying61 hi5 hz5 hs5 hb5 (by rfl) (by decide) (.slice (some ⟨W1.heap.size, 0, none⟩) 0 0) 0 [] (by rfl) EA.out (.slice ta x tc) (x) (Ab.bv (T.take x)) (by rfl) (rd_srv' (R1.out.keep BA.out) hl1.out) (by have := hl1.out; rw [Ab.bv_length]; omega) (Ab.bv_one _) (by unfold maxLen; omega) (by omega) BA.out.size ?_
           intro v5 W5 hO5 hG5 _
           have O5 : Hid (W5.ownsRow W1.heap.size 5 1 v5 x (Ab.bv (T.take x))) := (by unfold Hid; simpa using hO5)
           have B5 : Hid (Below W1.heap.size W1 W5) := BA.out.grown hG5 BA.out.size (fun k hk => by simp [Value.ownBlock] at hk; omega)
           obtain ⟨a5, c5, e5⟩ := own_shape O5.out
           subst e5
           have s5 := hS2.out B5.out
           clear hO5 hG5)
        | (refine step_app (by rfl) (.tmp 29) (.tmp 31) 61 (by rfl) W1.heap.size 5 i5 (.int .u8 0) 1 1 Try.underlying61 hi5 hz5 hs5 hb5 (by rfl) (by decide) (.slice a5 x c5) x (Ab.bv (T.take x)) (by rfl) O5.out (.slice ap p.length cp) (p.length) (Ab.bv (p)) (by rfl) (rd_srv' (R2.out.keep B5.out) hl2.out) (by have := hl2.out; rw [Ab.bv_length]; omega) (Ab.bv_one _) (by unfold maxLen; omega) (by omega) B5.out.size ?_
           intro v6 W6 hO6 hG6 _
           have O6 : Hid (W6.ownsRow W1.heap.size 5 1 v6 (x + (p.length)) ((Ab.bv (T.take x)) ++ Ab.bv (p))) := hO6
           have B6 : Hid (Below W1.heap.size W1 W6) := B5.out.grown hG6 B5.out.size (fun k hk => (O5.out.lt k hk).1)
           obtain ⟨a6, c6, e6⟩ := own_shape O6.out
           subst e6
           have s6 := hS2.out B6.out
           clear hO6 hG6)
        | (refine step_app (by rfl) (.tmp 32) (.tmp 36) 61 (by rfl) W1.heap.size 5 i5 (.int .u8 0) 1 1 Try.underlying61 hi5 hz5 hs5 hb5 (by rfl) (by decide) (.slice a6 (x + (p.length)) c6) (x + (p.length)) ((Ab.bv (T.take x)) ++ Ab.bv (p)) (by rfl) O6.out (.slice (Option.map (fun a => a.add x) ta) (T.length - x) (tc - x)) (T.length - x) (Ab.bv (T.drop x)) (by rfl) (rd_srv' (R3.out.keep B6.out) hl3.out) (by have := hl3.out; rw [Ab.bv_length]; omega) (Ab.bv_one _) (by unfold maxLen; omega) (by omega) B6.out.size ?_
           intro v7 W7 hO7 hG7 _
           have O7 : Hid (W7.ownsRow W1.heap.size 5 1 v7 ((x + (p.length)) + (T.length - x)) (((Ab.bv (T.take x)) ++ Ab.bv (p)) ++ Ab.bv (T.drop x))) := hO7
           have B7 : Hid (Below W1.heap.size W1 W7) := B6.out.grown hG7 B6.out.size (fun k hk => (O6.out.lt k hk).1)
           have s7 := hS2.out B7.out
           clear hO7 hG7)
        | fail)
    go_wp2
    exact bodyPost_ret (v := .tuple #[v7, .bool true]) (by simp [results, Try.results28, go_sem]) rfl ⟨_, rfl, own_to (Rk.own_lower O7.out B1.out.size) (by have a1 := hl1.out; have a3 := hl3.out; first | omega | (rw [List.length_append, List.length_append]; omega)) (by simp [Ab.bv]), Rk.bT B1.out B7.out⟩
end Go.Proofs.Ytpifjghhlcjedaa

