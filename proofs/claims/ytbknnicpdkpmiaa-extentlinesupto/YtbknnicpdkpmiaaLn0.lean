/- ExtentLines walked, where there are no such lines. -/
import Derived.Test.YtbknnicpdkpmiaaAwk
import Derived.Test.YtbknnicpdkpmiaaLpr
namespace Go.Proofs.Ytbknnicpdkpmiaa
open Go.RowKit

/-- append in a region that draws -/
theorem step_app {w : World} {ops : Array Oper} {o : Oper} {a : Act} {K : Act → World → Prop} {Q : Exit → Act → World → Prop} {E : Prop} (hgd : o.guard = none) (s x : Operand) (t : Nat)
    (ho : o.op = .call { callee := .builtin .append, args := #[s, x], argTypes := #[t, t] })
    (base e : Nat) (i : TypeInfo) (z : Value) (size bytes : Nat) (ht : Try.prog.underlying t = some (.slice e)) (hi : Try.prog.info? e = some i) (hz : i.zero = some z) (hsize : i.size = size) (hby : i.bytes = bytes) (hzs : z.cells.size = size) (hsz : 0 < size)
    (v : Value) (n : Nat) (xs : List Value) (hs : a.eval s = v) (hown : w.ownsRow base e size v n xs)
    (u : Value) (m : Nat) (news : List Value) (hx : a.eval x = u) (hsrc : Srv w u m news) (hl : news.length = m * size)
    (h1 : ∀ u ∈ news, u.oneCell' = true) (h63 : n + m ≤ maxLen) (hb : (n + m) * bytes ≤ 140737488355328) (hbase : base ≤ w.heap.size)
    (h : ∀ v' w', w'.ownsRow base e size v' (n + m) (xs ++ news) → w.grownBy w' v.ownBlock → (v'.ownBlock = v.ownBlock ∨ ∃ q, v'.ownBlock = some q ∧ w.heap.size ≤ q) → K (a.put o.dst v') w') :
    if Region.wanted o (yielded ops a.tmps) = true then Oper.wp Try.prog o a w K Q else E := by
  have hw : Region.wanted o (yielded ops a.tmps) = true := by simp [Region.wanted, hgd]
  rw [if_pos hw]
  rcases hsrc with ⟨hu, h0, h2⟩ | ⟨ad, c, hu, hcell⟩
  · subst hu h0 h2
    have hrun := run_append_owned_none (P := Try.prog) (w := w) base t o.type e i size ht hi v n xs hown
    unfold Oper.wp
    simp [execOp, ho, resolve, invoke, builtin, hs, hx, hrun, Result.andThen]
    exact h v w (by simpa using hown) ⟨rfl, rfl, rfl, Nat.le_refl _, fun _ _ _ => rfl⟩ (.inl rfl)
  · subst hu
    obtain ⟨v', w', hr, h2, h3, h4, h5⟩ := run_append_own_at (P := Try.prog) w base t o.type e i z size bytes ht hi hz hsize hby hzs hsz v n xs hown ad m c news hl hcell h1 h63 hb hbase
    unfold Oper.wp execOp
    simp only [ho, resolve, invoke, builtin, Sem.run_bind, Sem.run_pure, Result.andThen_ok, List.map_toArray, List.map_cons, List.map_nil, hs, hx, hr]
    refine h v' w' h2 h3 ?_
    rcases h5 with e | e
    · exact .inl e
    · exact .inr ⟨_, e, Nat.le_refl _⟩

set_option maxRecDepth 8000
set_option maxHeartbeats 4000000 in
theorem elines_no (ao : Option Addr) (n c : Nat) (f t : Int) (l : List UInt8) (w : World) (hn : n ≤ 4398046511104) (hf : f ≤ 9223372036854775807) (ht : t ≤ 9223372036854775807) (HT : Hid (Tx w ao n c l)) (h : f < 0 ∨ t < f ∨ (nl l : Int) < t) :
    Calls Try.prog 6 #[.slice ao n c, .int .i64 f, .int .i64 t] w fun e w' => e = .returned (.bool true) ∧ Below w.heap.size w w' := by
  have hlen := Hid.mk' HT.out.len
  have hN : nl l ≤ n := by have := nl_le l; rw [hlen.out] at this; exact this
  have hno : (lnB l f && lnB l t && decide (f ≤ t)) = false := by
    cases hx : (lnB l f && lnB l t && decide (f ≤ t)) with
    | false => rfl
    | true => obtain ⟨F, T, rfl, rfl, h1, h2, h3⟩ := wh_cases hx; omega
  have C12 := Hid.mk' (fun W (hb : Below w.heap.size w W) => whole_no ao n c f t l W hf ht (HT.out.keep hb) hno)
  unfold rt rno at C12
  dsimp only at C12
  clear hno
  by_cases h1 : f < 0
  · clear h
    go_enter Try.func6, Try.ntmps6
    go_wp2_with fail
    refine (alive_any _).mono ?_
    rintro e w1 ⟨rfl, hb1⟩
    have B1 := Hid.mk' hb1
    clear hb1
    go_wp2_with fail
    refine (split_any ao n c l _ (by omega) (HT.out.keep B1.out)).mono ?_
    rintro e w2 ⟨v, D0, rfl, hR, hD⟩
    have HV : Hid (Ls w2 v (nl l + 1) (ln l)) := ls_of 0 hR (fun j _ => by rw [Nat.zero_add]) hD (fun i hi => by rw [ln_length (by omega)]; have := en_le (sp_le (t := l) (n := i) (by omega)); have := hlen.out; omega)
    have B2 := Hid.mk' (bT B1.out hR.bel)
    obtain ⟨av, cv, hv⟩ := HV.out.top
    subst hv
    clear hR hD B1
    go_wp2_with fail
    refine (C12.out _ B2.out).mono ?_
    rintro e w3 ⟨rfl, hb3⟩
    have B3 := Hid.mk' (bT B2.out hb3)
    clear hb3
    generalize nl l + 1 = K at *
    go_wp2
    all_goals go_ret
    all_goals exact ⟨rfl, bAlloc B3.out _⟩
  by_cases h2 : t < f
  · clear h
    go_enter Try.func6, Try.ntmps6
    go_wp2_with fail
    refine (alive_any _).mono ?_
    rintro e w1 ⟨rfl, hb1⟩
    have B1 := Hid.mk' hb1
    clear hb1
    go_wp2_with fail
    refine (split_any ao n c l _ (by omega) (HT.out.keep B1.out)).mono ?_
    rintro e w2 ⟨v, D0, rfl, hR, hD⟩
    have HV : Hid (Ls w2 v (nl l + 1) (ln l)) := ls_of 0 hR (fun j _ => by rw [Nat.zero_add]) hD (fun i hi => by rw [ln_length (by omega)]; have := en_le (sp_le (t := l) (n := i) (by omega)); have := hlen.out; omega)
    have B2 := Hid.mk' (bT B1.out hR.bel)
    obtain ⟨av, cv, hv⟩ := HV.out.top
    subst hv
    clear hR hD B1
    go_wp2_with fail
    refine (C12.out _ B2.out).mono ?_
    rintro e w3 ⟨rfl, hb3⟩
    have B3 := Hid.mk' (bT B2.out hb3)
    clear hb3
    generalize nl l + 1 = K at *
    go_wp2
    all_goals go_ret
    all_goals exact ⟨rfl, bAlloc B3.out _⟩
  have h3 : ((nl l + 1 : Nat) : Int) ≤ t := by omega
  clear h
  go_enter Try.func6, Try.ntmps6
  go_wp2_with fail
  refine (alive_any _).mono ?_
  rintro e w1 ⟨rfl, hb1⟩
  have B1 := Hid.mk' hb1
  clear hb1
  go_wp2_with fail
  refine (split_any ao n c l _ (by omega) (HT.out.keep B1.out)).mono ?_
  rintro e w2 ⟨v, D0, rfl, hR, hD⟩
  have HV : Hid (Ls w2 v (nl l + 1) (ln l)) := ls_of 0 hR (fun j _ => by rw [Nat.zero_add]) hD (fun i hi => by rw [ln_length (by omega)]; have := en_le (sp_le (t := l) (n := i) (by omega)); have := hlen.out; omega)
  have B2 := Hid.mk' (bT B1.out hR.bel)
  obtain ⟨av, cv, hv⟩ := HV.out.top
  subst hv
  clear hR hD B1
  go_wp2_with fail
  refine (C12.out _ B2.out).mono ?_
  rintro e w3 ⟨rfl, hb3⟩
  have B3 := Hid.mk' (bT B2.out hb3)
  clear hb3
  generalize nl l + 1 = K at *
  go_wp2
  all_goals go_ret
  all_goals exact ⟨rfl, bAlloc B3.out _⟩

end Go.Proofs.Ytbknnicpdkpmiaa
