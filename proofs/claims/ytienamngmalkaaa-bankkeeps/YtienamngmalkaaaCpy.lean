/- quoinref15.Copy, letter, Valid, ended. -/
import Derived.Test.YtienamngmalkaaaAwk
namespace Go.Proofs.Ytienamngmalkaaa
open Go.RowKit

set_option maxRecDepth 8000
/-- append of whatever bytes there are, to a list that is owned, as one step of a region that draws -/
theorem step_big {w : World} {cc : Bool} {o : Oper} {a : Act} {K : Act → World → Prop} {Q : Exit → Act → World → Prop} {E : Prop} (hcc : cc = true) (s x : Operand)
    (ho : o.op = .call { callee := .builtin .append, args := #[s, x], argTypes := #[22, 22] }) (base : Nat)
    (v : Value) (n : Nat) (xs : List Value) (hs : a.eval s = v) (hown : w.ownsRow base 5 1 v n xs)
    (u : Value) (m : Nat) (news : List Value) (hx : a.eval x = u) (hsrc : Srv w u m news) (hl : news.length = m)
    (h1 : ∀ u ∈ news, u.oneCell' = true) (hb : n + m ≤ 150000000000000) (hm : m ≤ 140737488355328) (hbase : base ≤ w.heap.size)
    (h : ∀ v' w', w'.ownsRow base 5 1 v' (n + m) (xs ++ news) → w.grownBy w' v.ownBlock → (v'.ownBlock = v.ownBlock ∨ ∃ q, v'.ownBlock = some q ∧ w.heap.size ≤ q) → K (a.put o.dst v') w') :
    if cc = true then Oper.wp Try.prog o a w K Q else E := by
  rw [if_pos hcc]
  obtain ⟨i5, hi5, hz5, hs5, hb5⟩ := info_parts info5
  have hx0 := hown.1
  have big : ∃ v' w', (Builtin.append_ #[22, 22] o.type #[v, u]).run Try.prog w = .ok v' w' ∧ w'.ownsRow base 5 1 v' (n + m) (xs ++ news) ∧ w.grownBy w' v.ownBlock ∧ (v'.ownBlock = v.ownBlock ∨ ∃ q, v'.ownBlock = some q ∧ w.heap.size ≤ q) := by
    rcases hsrc with ⟨hu, h0, h2⟩ | ⟨ad, c, hu, hcell⟩
    · subst hu h0 h2
      exact ⟨v, w, run_append_owned_none (P := Try.prog) (w := w) base 22 o.type 5 i5 1 Try.underlying22 hi5 v n xs hown, by simpa using hown, ⟨rfl, rfl, rfl, Nat.le_refl _, fun _ _ _ => rfl⟩, .inl rfl⟩
    · subst hu
      by_cases hsm : n + m ≤ 140737488355328
      · obtain ⟨v', w', hr, h2, h3, h4, h5⟩ := run_append_own_at (P := Try.prog) w base 22 o.type 5 i5 (.int .u8 0) 1 1 Try.underlying22 hi5 hz5 hs5 hb5 rfl (by decide) v n xs hown ad m c news (by omega) hcell h1 (by unfold maxLen; omega) (by omega) hbase
        refine ⟨v', w', hr, h2, h3, ?_⟩
        rcases h5 with e | e
        · exact .inl e
        · exact .inr ⟨_, e, Nat.le_refl _⟩
      · rcases hown.2 with ⟨hv, hn0⟩ | ⟨g, cap, cur, hv, hbg, hg, hnc, hcm, hcs, htake⟩
        · omega
        · subst hv
          have hge := grownCap_ge w (n + m) cap 5
          have hcm2 := grownCap_le_maxLen w (n + m) cap 5 (by unfold maxLen; omega)
          by_cases hroom : n + m ≤ cap
          · have hr := run_append_room (P := Try.prog) w 22 o.type 5 i5 Try.underlying22 hi5 g n cap cur hg ad m c news (by rw [hs5]; omega) hcell h1 hroom (by rw [hs5]; omega)
            rw [hs5] at hr
            refine ⟨_, _, hr, ⟨by simp; omega, .inr ⟨g, cap, _, rfl, hbg, setRow_heap w g cur _ 5 _ hg, hroom, hcm, ?_, ?_⟩⟩, grown_setRow _, .inl rfl⟩
            · simp only [List.size_toArray, List.length_append, List.length_take, List.length_drop, Array.length_toList]
              omega
            · rw [htake]
              exact List.take_left' (by simp; omega)
          · have hcells : ∀ j t, xs[j]? = some t → w.cell? ((⟨g, 0, none⟩ : Addr).add j) = some t := hown.cells rfl
            have hq := next_quarter (show cap < n + m by omega)
            have hr := run_append_grow (P := Try.prog) w 22 o.type 5 i5 (.int .u8 0) Try.underlying22 hi5 hz5 ⟨g, 0, none⟩ n cap xs (by rw [hs5]; omega) hcells ad m c news (by rw [hs5]; omega) hcell (by omega) (by omega) (by rw [hb5]; omega)
            refine ⟨_, _, hr, ⟨by simp; omega, .inr ⟨w.heap.size, _, _, rfl, hbase, heap_alloc_new w.drew _, hge, hcm2, ?_, ?_⟩⟩, ⟨rfl, rfl, rfl, by simp, fun k hk _ => heap_alloc_old w.drew _ hk⟩, .inr ⟨w.heap.size, rfl, Nat.le_refl _⟩⟩
            · simp only [Array.size_append, List.size_toArray, size_zeroCells, Value.cells, hl]
              simp; omega
            · simp only [Array.toList_append, List.append_assoc]
              rw [← List.append_assoc]
              exact List.take_left' (by simp; omega)
  obtain ⟨v', w', hr, h2, h3, h4⟩ := big
  unfold Oper.wp execOp
  simp only [ho, resolve, invoke, builtin, Sem.run_bind, Sem.run_pure, Result.andThen_ok, List.map_toArray, List.map_cons, List.map_nil, hs, hx, hr]
  exact h v' w' h2 h3 h4
set_option maxHeartbeats 2000000 in
/-- Copy -/
theorem copy_any (s l : Bool) (ao : Option Addr) (n c : Nat) (t : List UInt8) (w : World) (h : Hid (Tx w ao n c t)) (hn : n ≤ 140737488355328) :
    Calls Try.prog 21 #[.agg #[.bool s, .bool l, .slice ao n c]] w fun e w' => ∃ a' c', e = .returned (.agg #[.bool s, .bool l, .slice a' n c']) ∧ w'.ownsRow w.heap.size 5 1 (.slice a' n c') n (bv t) ∧ Below w.heap.size w w' := by
  have hlen := Hid.mk' h.out.len
  generalize hW2 : (w.alloc (.cells #[.bool s, .bool l, .slice ao n c] 24)).alloc (.cells #[.bool false, .bool false, .slice none 0 0] 24) = W2
  have hz2 : W2.heap.size = w.heap.size + 1 + 1 := by subst hW2; simp
  have BE : Hid (Below w.heap.size w W2) := by subst hW2; exact bAlloc (bAlloc (Below.refl _ _) _) _
  have B1 : Hid (Blk W2 w.heap.size 24 #[.bool s, .bool l, .slice ao n c]) := by subst hW2; exact (Blk.new w 24 _).keep (bAlloc (Below.refl _ _) _)
  have B2 : Hid (Blk W2 (w.heap.size + 1) 24 #[.bool false, .bool false, .slice none 0 0]) := by
    subst hW2
    have := Blk.new (w.alloc (.cells #[.bool s, .bool l, .slice ao n c] 24)) 24 #[.bool false, .bool false, .slice none 0 0]
    rwa [World.size_alloc] at this
  have q0 : W2.cell? ⟨w.heap.size, 0, none⟩ = some (.bool s) := B1.out.cell rfl
  have q1 : W2.cell? ⟨w.heap.size, 1, none⟩ = some (.bool l) := B1.out.cell rfl
  have q2 : W2.cell? ⟨w.heap.size, 2, none⟩ = some (.slice ao n c) := B1.out.cell rfl
  have OW : Hid (((W2.alloc (.cells #[] 5)).drew).ownsRow W2.heap.size 5 1 (.slice (some ⟨W2.heap.size, 0, none⟩) 0 0) 0 []) := own0 W2
  have BW : Hid (Below W2.heap.size W2 ((W2.alloc (.cells #[] 5)).drew)) := (bAlloc (Below.refl _ _) _).drew
  have TW := Hid.mk' ((h.out.keep (bT BE.out BW.out)).srv)
  have hsz : W2.heap.size ≤ ((W2.alloc (.cells #[] 5)).drew).heap.size := BW.out.size
  rw [hz2] at OW
  go_enter Try.func21, Try.ntmps21
  go_wp2_with fail
  clear hW2
  have HC : Hid (∀ W, Below W2.heap.size W2 W → W.cell? ⟨w.heap.size, 0, none⟩ = some (.bool s) ∧ W.cell? ⟨w.heap.size, 1, none⟩ = some (.bool l) ∧ W.cell? ⟨w.heap.size, 2, none⟩ = some (.slice ao n c)) := fun W hW => ⟨(B1.out.keep hW).cell rfl, (B1.out.keep hW).cell rfl, (B1.out.keep hW).cell rfl⟩
  go_region_held3 (fun w' => w'.cell? ⟨w.heap.size, 0, none⟩ = some (.bool s) ∧ w'.cell? ⟨w.heap.size, 1, none⟩ = some (.bool l) ∧ w'.cell? ⟨w.heap.size, 2, none⟩ = some (.slice ao n c)) (first | with_reducible assumption | simp [*, go_sem])
    (first | (refine step_big (by rfl) (.tmp 7) (.tmp 9) (by rfl) (w.heap.size + 1 + 1) (.slice (some ⟨w.heap.size + 1 + 1, 0, none⟩) 0 0) 0 [] (by rfl) OW.out (.slice ao n c) n (bv t) (by rfl) TW.out (by rw [bv_length]; exact hlen.out) (bv_one _) (by omega) hn (by omega) ?_; intro v4 w4 hown4 hgrow4 _; (have B4 : Hid (Below W2.heap.size W2 w4) := BW.out.grown hgrow4 (by omega) (fun k hk => by simp [Value.ownBlock] at hk; omega)); (have O4 : Hid (w4.ownsRow (w.heap.size + 1 + 1) 5 1 v4 n (bv t)) := by unfold Hid; simpa using hown4); clear hown4 hgrow4 q0 q1 q2; (obtain ⟨a4, c4, hv4⟩ := own_shape O4.out); subst hv4; (obtain ⟨q0, q1, q2⟩ := HC.out w4 B4.out); (have K2 := Hid.mk' (B2.out.keep B4.out)); (have r0 : w4.cell? ⟨w.heap.size + 1, 0, none⟩ = some (.bool false) := K2.out.cell rfl); (have r1 : w4.cell? ⟨w.heap.size + 1, 1, none⟩ = some (.bool false) := K2.out.cell rfl); (have r2 : w4.cell? ⟨w.heap.size + 1, 2, none⟩ = some (.slice none 0 0) := K2.out.cell rfl); (have g0 := K2.out.frozen 0); (have g1 := K2.out.frozen 1); (have g2 := K2.out.frozen 2))
           | fail)
  have hlv := ld24 (((K2.out.set (j := 0) (.bool s)).set (j := 1) (.bool l)).set (j := 2) (.slice a4 n c4))
  have BF := Hid.mk' (bT BE.out B4.out)
  go_wp2
  exact bodyPost_ret (v := .agg #[.bool s, .bool l, .slice a4 n c4]) (by simp [results, Try.results21, asAddr, hlv]) rfl ⟨_, _, rfl, own_set3 O4.out, bset3' BF.out _ _ _⟩
end Go.Proofs.Ytienamngmalkaaa
