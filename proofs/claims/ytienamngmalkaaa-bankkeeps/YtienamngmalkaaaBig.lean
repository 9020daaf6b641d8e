/- append onto a row of bytes of the call's own, up to 150000000000000 bytes: a new row asks for at most a quarter more. -/
import Derived.Test.YtienamngmalkaaaLent
namespace Go.Proofs.Ytienamngmalkaaa
open Go.RowKit

theorem next_quarter {need old : Nat} (h : old < need) : Builtin.nextslicecap need old ≤ need + need / 4 + 256 := by
  unfold Builtin.nextslicecap
  split
  · omega
  · split
    · omega
    · rw [growBy_four]
      repeat' split
      all_goals omega

/-- append of whatever bytes there are, to a list that is owned -/
theorem append_big {w : World} {ops : Array Oper} {rest : List Oper} {o : Oper} {a : Act} {Q : Exit → Act → World → Prop} (hgd : o.guard = none) (s x : Operand)
    (ho : o.op = .call { callee := .builtin .append, args := #[s, x], argTypes := #[22, 22] }) (base : Nat)
    (v : Value) (n : Nat) (xs : List Value) (hs : a.eval s = v) (hown : w.ownsRow base 5 1 v n xs)
    (u : Value) (m : Nat) (news : List Value) (hx : a.eval x = u) (hsrc : Srv w u m news) (hl : news.length = m)
    (h1 : ∀ u ∈ news, u.oneCell' = true) (hb : n + m ≤ 150000000000000) (hm : m ≤ 140737488355328) (hbase : base ≤ w.heap.size)
    (h : ∀ v' w', w'.ownsRow base 5 1 v' (n + m) (xs ++ news) → w.grownBy w' v.ownBlock → (v'.ownBlock = v.ownBlock ∨ ∃ q, v'.ownBlock = some q ∧ w.heap.size ≤ q) → wpList Try.prog ops Q rest (a.put o.dst v') w') :
    wpList Try.prog ops Q (o :: rest) a w := by
  obtain ⟨i5, hi5, hz5, hs5, hb5⟩ := info_parts info5
  by_cases hsm : n + m ≤ 140737488355328
  · exact append_srv hgd s x 22 ho base 5 i5 (.int .u8 0) 1 1 Try.underlying22 hi5 hz5 hs5 hb5 rfl (by decide) v n xs hs hown u m news hx hsrc (by omega) h1 (by unfold maxLen; omega) (by omega) hbase h
  · have hx0 := hown.1
    rcases hsrc with ⟨hu, h0, h2⟩ | ⟨ad, c, hu, hcell⟩
    · subst hu h0 h2
      refine wpList_plain hgd fun K hK => ?_
      have hrun := run_append_owned_none (P := Try.prog) (w := w) base 22 o.type 5 i5 1 Try.underlying22 hi5 v n xs hown
      unfold Oper.wp
      simp [execOp, ho, resolve, invoke, builtin, hs, hx, hrun, Result.andThen]
      exact hK _ _ (h v w (by simpa using hown) ⟨rfl, rfl, rfl, Nat.le_refl _, fun _ _ _ => rfl⟩ (.inl rfl))
    · subst hu
      rcases hown.2 with ⟨hv, hn0⟩ | ⟨g, cap, cur, hv, hbg, hg, hnc, hcm, hcs, htake⟩
      · omega
      · subst hv
        by_cases hroom : n + m ≤ cap
        · refine wpList_append_fits w hgd s x 22 ho base 5 i5 1 Try.underlying22 hi5 hs5 g n cap xs hs hown ad m c news hx (by omega) hcell h1 hroom ?_
          intro w' h2 h3
          exact h _ w' h2 h3 (.inl rfl)
        · refine wpList_plain hgd fun K hK => ?_
          have hcells : ∀ j t, xs[j]? = some t → w.cell? ((⟨g, 0, none⟩ : Addr).add j) = some t := hown.cells rfl
          have hq := next_quarter (show cap < n + m by omega)
          have hr := run_append_grow (P := Try.prog) w 22 o.type 5 i5 (.int .u8 0) Try.underlying22 hi5 hz5 ⟨g, 0, none⟩ n cap xs (by rw [hs5]; omega) hcells ad m c news (by rw [hs5]; omega) hcell (by omega) (by omega) (by rw [hb5]; omega)
          have hge := grownCap_ge w (n + m) cap 5
          have hcm2 := grownCap_le_maxLen w (n + m) cap 5 (by unfold maxLen; omega)
          unfold Oper.wp execOp
          simp only [ho, resolve, invoke, builtin, Sem.run_bind, Sem.run_pure, Result.andThen_ok, List.map_toArray, List.map_cons, List.map_nil, hs, hx, hr]
          refine hK _ _ (h _ _ ⟨by simp; omega, .inr ⟨w.heap.size, _, _, rfl, hbase, heap_alloc_new w.drew _, hge, hcm2, ?_, ?_⟩⟩ ⟨rfl, rfl, rfl, by simp, fun k hk _ => heap_alloc_old w.drew _ hk⟩ (.inr ⟨w.heap.size, rfl, Nat.le_refl _⟩))
          · simp only [Array.size_append, List.size_toArray, size_zeroCells, Value.cells, hl]
            simp; omega
          · simp only [Array.toList_append, List.append_assoc]
            rw [← List.append_assoc]
            exact List.take_left' (by simp; omega)
end Go.Proofs.Ytienamngmalkaaa
