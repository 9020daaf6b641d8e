/- readNode, one way. -/
import Derived.Test.YtcaegdfbbjfgpaaAm06
import Derived.Test.YtcaegdfbbjfgpaaAm07
import Derived.Test.YtcaegdfbbjfgpaaAm08
import Derived.Test.YtcaegdfbbjfgpaaAm05
import Derived.Deep.CutRange
import Derived.Deep.LoopGhost
import Derived.OwnWalk
namespace Go.Proofs.Ytcaegdfbbjfgpaa
open Go.RowKit

set_option maxRecDepth 100000 in
set_option maxHeartbeats 4000000 in
theorem readNode_ne3 (b off n c : Nat) (h : Nat) (A : Addr) (ps po pl pn : Int) (xr : Bool) (l r : Tr) (L1 L2 : List Rw) (xn : Int) (w : World) (hn : ((n : Int) == 0) = false) (hnp : (0 : Int) < (n : Int)) (hn1 : (1 : Int) ≤ (n : Int)) (_hnc : (n : Int) ≤ (c : Int)) (_h1c : (1 : Int) ≤ (c : Int)) (hw : IntKind.i64.wrap (h : Int) = (h : Int)) (hw' : wrap64 (h : Int) = (h : Int)) (hf : fitB pl pn = true)
    (hA : (if c = 1 then some (⟨b, off, none⟩ : Addr) else some ⟨b, off + 10, none⟩) = some A)
    (r0 : w.cell? ⟨b, off, none⟩ = some (.int .i64 ps)) (r1 : w.cell? ⟨b, off + 1, none⟩ = some (.int .i64 po)) (r2 : w.cell? ⟨b, off + 2, none⟩ = some (.int .i64 pl)) (r3 : w.cell? ⟨b, off + 3, none⟩ = some (.int .i64 pn)) (r4 : w.cell? ⟨b, off + 4, none⟩ = some (.bool xr)) (r5 : w.cell? ⟨b, off + 5, none⟩ = some (.bool l.has)) (r6 : w.cell? ⟨b, off + 6, none⟩ = some (.bool r.has)) (r7 : w.cell? ⟨b, off + 7, none⟩ = some (.int .i64 (((Tr.mk (some (xr, l, ⟨ps, po, pl, pn⟩, r)))).size : Nat))) (r8 : w.cell? ⟨b, off + 8, none⟩ = some (.int .i64 ((Tr.mk (some (xr, l, ⟨ps, po, pl, pn⟩, r)))).byt)) (r9 : w.cell? ⟨b, off + 9, none⟩ = some (.int .i64 xn))
    (hlt : b < w.heap.size) (hfi : Hid ((Tr.mk (some (xr, l, ⟨ps, po, pl, pn⟩, r)))).fine) (hne : (((Tr.mk (some (xr, l, ⟨ps, po, pl, pn⟩, r)))).lin = xn) = False)
    (K1 : Hid (∀ w', Below w.heap.size w w' → Calls Try.prog 76 #[.bool l.has, .slice (some A) (n - 1) (c - 1), .int .i64 (h : Int)] w' fun e w'' => RdGave w' (some (l, L1)) e w''))
    (K2 : Hid (∀ w' ao n c, Rdr w' (.slice ao n c) L1 → Calls Try.prog 76 #[.bool r.has, .slice ao n c, .int .i64 (h : Int)] w' fun e w'' => RdGave w' (some (r, L2)) e w''))
    :
    Calls Try.prog 56 #[.slice (some ⟨b, off, none⟩) n c, .int .i64 ((h + 1 : Nat) : Int)] w fun e w' => (∃ a ao n c, e = .returned (.tuple #[.pointer a, .slice ao n c, .bool false]) ∧ At w' ((Tr.mk (some (xr, l, ⟨ps, po, pl, pn⟩, r)))) a ∧ Rdr w' (.slice ao n c) L2) ∧ Below w.heap.size w w' := by
  go_enter Try.func56, Try.ntmps56
  go_wp2_with (go_at_call 45; refine (fit_any ps po pl pn _).mono ?_; rw [hf]; rintro e w' ⟨rfl, rfl⟩)
  go_region_held3 (fun w' => w'.cell? ⟨w.heap.size + 1, 5, none⟩ = some (.bool l.has)) (first | assumption | simp [*, go_sem])
    (first | (go_at_call 76; refine (K1.out _ ((bAlloc (bAlloc (Below.refl w.heap.size w) _) _).drew)).mono ?_; rintro e w9 ⟨⟨la, ao9, n9, c9, rfl, hat9, hrd9⟩, hb9⟩; have L9 := bD hb9; obtain ⟨cc9, ff9⟩ := bcell L9; have k9 : w9.cell? ⟨w.heap.size + 1, 5, none⟩ = some (.bool l.has) := by rw [cc9 _ _ (by simp)]; simp))
  clear k9 r0 r1 r2 r3 r4 r5 r6 r7 r8 r9 hA K1
  go_wp2_with (first | (go_at_call 76; refine (K2.out _ _ _ _ hrd9).mono ?_; rintro e w8 ⟨⟨ra, ao8, n8, c8, rfl, hat8, hrd8⟩, hb8⟩; have L8 := L9.trans (hb8.mono L9.size); obtain ⟨cc8, ff8⟩ := bcell L8)
                     | (go_at_call 77; refine (make_any xr l ps po pl pn r la ra _ hfi (hat9.keep hb8) hat8).mono ?_; rintro e w7 ⟨b7, rfl, hat7, hb7⟩; have L7 := L8.trans (hb7.mono L8.size); have q7 := bcell L7))
  obtain ⟨cc7, -⟩ := q7
  have q0 : w7.cell? ⟨w.heap.size + 1, 0, none⟩ = some (.int .i64 ps) := by rw [cc7 _ _ (by simp)]; simp
  have q1 : w7.cell? ⟨w.heap.size + 1, 1, none⟩ = some (.int .i64 po) := by rw [cc7 _ _ (by simp)]; simp
  have q2 : w7.cell? ⟨w.heap.size + 1, 2, none⟩ = some (.int .i64 pl) := by rw [cc7 _ _ (by simp)]; simp
  have q3 : w7.cell? ⟨w.heap.size + 1, 3, none⟩ = some (.int .i64 pn) := by rw [cc7 _ _ (by simp)]; simp
  have q4 : w7.cell? ⟨w.heap.size + 1, 4, none⟩ = some (.bool xr) := by rw [cc7 _ _ (by simp)]; simp
  have q5 : w7.cell? ⟨w.heap.size + 1, 5, none⟩ = some (.bool l.has) := by rw [cc7 _ _ (by simp)]; simp
  have q6 : w7.cell? ⟨w.heap.size + 1, 6, none⟩ = some (.bool r.has) := by rw [cc7 _ _ (by simp)]; simp
  have q7 : w7.cell? ⟨w.heap.size + 1, 7, none⟩ = some (.int .i64 (((Tr.mk (some (xr, l, ⟨ps, po, pl, pn⟩, r)))).size : Nat)) := by rw [cc7 _ _ (by simp)]; simp
  have q8 : w7.cell? ⟨w.heap.size + 1, 8, none⟩ = some (.int .i64 ((Tr.mk (some (xr, l, ⟨ps, po, pl, pn⟩, r)))).byt) := by rw [cc7 _ _ (by simp)]; simp
  have q9 : w7.cell? ⟨w.heap.size + 1, 9, none⟩ = some (.int .i64 xn) := by rw [cc7 _ _ (by simp)]; simp
  obtain ⟨b', la', ra', eb, hn7, -, -⟩ := id hat7
  have eb' : b' = b7 := by simpa using eb.symm
  subst eb'
  obtain ⟨d0, d1, d2, d3, d4, d5, d6, d7, d8, d9, d10, d11⟩ := s12 hn7
  have HA7 : Hid (At w7 ((Tr.mk (some (xr, l, ⟨ps, po, pl, pn⟩, r)))) (some ⟨b', 0, none⟩)) := hat7
  have HRD : Hid (Rdr w7 (.slice ao8 n8 c8) L2 ∧ Below w.heap.size w w7) := ⟨hrd8.keep hb7, bA2 L7⟩
  clear eb hn7 hat7 hat8 hat9 hrd8 hrd9 hb7 hb8 hb9 L7 L8 L9 cc7 cc8 cc9 ff8 ff9 K2
  go_quiet (first | (go_at_call 78; exact Calls.quiet_of (balanced_drewN xr l ps po pl pn r _ _ _ HA7.out)))
  go_wp2
  go_ret3
  exact ⟨⟨_, _, _, _, rfl, HA7.out.keep (below_drewN' _ _), HRD.out.1.keep (below_drewN' _ _)⟩, HRD.out.2.trans ((below_drewN' _ _).mono HRD.out.2.size)⟩
end Go.Proofs.Ytcaegdfbbjfgpaa

/- The contracts of readKid, readNode (whole) and Check. -/
namespace Go.Proofs.Ytcaegdfbbjfgpaa
open Go.RowKit

set_option maxHeartbeats 400000 in
theorem readKid_no (ao : Option Addr) (n c : Nat) (h : Int) (L : List Rw) (w : World) (hr : Hid (Rdr w (.slice ao n c) L)) : Calls Try.prog 76 #[.bool false, .slice ao n c, .int .i64 h] w fun e w' => RdGave w (some ((Tr.mk none), L)) e w' := by
  go_enter Try.func76, Try.ntmps76
  go_wp2
  go_ret3
  exact ⟨⟨_, _, _, _, rfl, rfl, hr.out⟩, Below.refl _ _⟩
set_option maxHeartbeats 400000 in
theorem readKid_none (ao : Option Addr) (n c : Nat) (h : Int) (w : World) (K : Hid (Calls Try.prog 56 #[.slice ao n c, .int .i64 h] w fun e w' => RdGave w none e w')) : Calls Try.prog 76 #[.bool true, .slice ao n c, .int .i64 h] w fun e w' => RdGave w none e w' := by
  go_enter Try.func76, Try.ntmps76
  go_wp2_with (go_at_call 56; refine K.out.mono ?_; rintro e w9 ⟨⟨v1, v2, rfl⟩, hb9⟩)
  go_ret3
  exact ⟨⟨_, _, rfl⟩, hb9⟩
set_option maxHeartbeats 400000 in
theorem readKid_some (ao : Option Addr) (n c : Nat) (h : Int) (t : Tr) (L : List Rw) (w : World) (K : Hid (Calls Try.prog 56 #[.slice ao n c, .int .i64 h] w fun e w' => RdGave w (some (t, L)) e w')) : Calls Try.prog 76 #[.bool true, .slice ao n c, .int .i64 h] w fun e w' => RdGave w (some (t, L)) e w' := by
  go_enter Try.func76, Try.ntmps76
  go_wp2_with (go_at_call 56; refine K.out.mono ?_; rintro e w9 ⟨⟨a9, ao9, n9, c9, rfl, hat9, hrd9⟩, hb9⟩)
  go_ret3
  exact ⟨⟨_, _, _, _, rfl, hat9, hrd9⟩, hb9⟩

theorem readKid_any (b : Bool) (ao : Option Addr) (n c h : Nat) (L : List Rw) (w : World) (hr : Rdr w (.slice ao n c) L) (K : ∀ w, Rdr w (.slice ao n c) L → Calls Try.prog 56 #[.slice ao n c, .int .i64 (h : Int)] w fun e w' => RdGave w (readN h L) e w') :
    Calls Try.prog 76 #[.bool b, .slice ao n c, .int .i64 (h : Int)] w fun e w' => RdGave w (readK h b L) e w' := by
  cases b with
  | false => rw [show readK h false L = some ((Tr.mk none), L) from by unfold readK; rfl]; exact readKid_no ao n c h L w hr
  | true =>
    have k := K w hr
    rw [show readK h true L = readN h L from by unfold readK; rfl]
    cases e : readN h L with
    | none => rw [e] at k; exact readKid_none ao n c h w k
    | some p => obtain ⟨t, L'⟩ := p; rw [e] at k; exact readKid_some ao n c h t L' w k

theorem i64_in2 {x : Int} (h1 : -9223372036854775808 ≤ x) (h2 : x ≤ 9223372036854775807) : IntKind.i64.wrap x = x := by rw [IntKind.wrap_i64]; omega
theorem readK_has {h : Nat} {b : Bool} {L : List Rw} {t : Tr} {rest : List Rw} (e : readK h b L = some (t, rest)) : t.has = b ∧ Reads L t rest := by
  unfold readK at e
  split at e
  · rename_i hb
    refine ⟨?_, readN_ok h L t rest e⟩
    cases h with
    | zero => rw [readN_zero] at e; cases e
    | succ h =>
      cases L with
      | nil => rw [readN_nil] at e; cases e
      | cons x L =>
        rw [readN_succ] at e
        split at e
        · split at e
          · cases e
          · split at e
            · cases e
            · unfold closeN at e
              split at e
              · simp at e; obtain ⟨rfl, rfl⟩ := e; rw [hb]; rfl
              · cases e
        · cases e
  · simp at e; obtain ⟨rfl, rfl⟩ := e; refine ⟨by simp_all [Tr.has], by simp [rowsT], trivial, trivial⟩

theorem readNode_any : ∀ (h : Nat) (L : List Rw) (ao : Option Addr) (n c : Nat) (w : World), h ≤ 1000 → L.length ≤ 1048576 → Rdr w (.slice ao n c) L → Calls Try.prog 56 #[.slice ao n c, .int .i64 (h : Int)] w fun e w' => RdGave w (readN h L) e w'
  | h, [], ao, n, c, w, _, _, hr => by
    obtain ⟨ao', n', c', e1, e2, e3, e4⟩ := hr
    obtain ⟨rfl, rfl, rfl⟩ : ao = ao' ∧ n = n' ∧ c = c' := by simpa using e1
    have : n = 0 := e2
    subst this
    rw [show readN h [] = none from readN_nil h]
    exact readNode_nil ao c h w
  | 0, x :: L, ao, n, c, w, _, _, hr => by
    obtain ⟨ao', n', c', e1, e2, e3, e4⟩ := hr
    obtain ⟨rfl, rfl, rfl⟩ : ao = ao' ∧ n = n' ∧ c = c' := by simpa using e1
    rw [show readN 0 (x :: L) = none from readN_zero _]
    exact readNode_zero ao n c w (by rw [beq_eq_false_iff_ne]; simp at e2; omega)
  | h + 1, ⟨⟨ps, po, pl, pn⟩, xr, xl, xg, xc, xb, xn⟩ :: L, ao, n, c, w, hh, hz, hr => by
    have ih := readNode_any h
    obtain ⟨ao', n', c', e1, e2, e3, e4⟩ := hr
    obtain ⟨rfl, rfl, rfl⟩ : ao = ao' ∧ n = n' ∧ c = c' := by simpa using e1
    rcases e4 with e4 | ⟨b, off, rfl, hR⟩
    · cases e4
    obtain ⟨r0, r1, r2, r3, r4, r5, r6, r7, r8, r9⟩ := hR 0 _ rfl
    simp only [Nat.zero_mul, Nat.add_zero] at r0 r1 r2 r3 r4 r5 r6 r7 r8 r9
    have hlt := cell_lt r0
    simp only [List.length_cons] at e2 hz
    have hn : ((n : Int) == 0) = false := by rw [beq_eq_false_iff_ne]; omega
    have hnp : (0 : Int) < (n : Int) := by omega
    have hn1 : (1 : Int) ≤ (n : Int) := by omega
    have hnc : (n : Int) ≤ (c : Int) := by omega
    have h1c : (1 : Int) ≤ (c : Int) := by omega
    have hw : IntKind.i64.wrap (h : Int) = (h : Int) := i64_in2 (by omega) (by omega)
    have hw' : wrap64 (h : Int) = (h : Int) := w64 (by omega) (by omega)
    cases hf : fitB pl pn with
    | false =>
      rw [show readN (h + 1) (⟨⟨ps, po, pl, pn⟩, xr, xl, xg, xc, xb, xn⟩ :: L) = none from by rw [readN_succ]; simp [hf]]
      exact readNode_unfit b off n c h ps po pl pn w hn hnp hf r0 r1 r2 r3
    | true =>
      obtain ⟨A, hA, hrest⟩ : ∃ A : Addr, (if c = 1 then some (⟨b, off, none⟩ : Addr) else some ⟨b, off + 10, none⟩) = some A ∧ Rdr w (.slice (some A) (n - 1) (c - 1)) L := by
        by_cases hc : c = 1
        · refine ⟨⟨b, off, none⟩, by rw [if_pos hc], _, _, _, rfl, by omega, by omega, .inl (List.eq_nil_of_length_eq_zero (by omega))⟩
        · refine ⟨⟨b, off + 10, none⟩, by rw [if_neg hc], _, _, _, rfl, by omega, by omega, .inr ⟨b, off + 10, rfl, ?_⟩⟩
          have := hR.drop 1
          simpa using this
      have K1 : ∀ w', Below w.heap.size w w' → Calls Try.prog 76 #[.bool xl, .slice (some A) (n - 1) (c - 1), .int .i64 (h : Int)] w' fun e w'' => RdGave w' (readK h xl L) e w'' := fun w' hb =>
        readKid_any xl _ _ _ h L w' (hrest.keep hb) (fun w2 hr2 => ih L _ _ _ w2 (by omega) (by omega) hr2)
      rw [readN_succ]
      simp only [hf, if_true]
      cases e1 : readK h xl L with
      | none =>
        rw [e1] at K1
        exact readNode_left b off n c h A ps po pl pn xr xl xg xc xb xn w hn hnp hn1 hnc h1c hw hw' hf hA r0 r1 r2 r3 r4 r5 r6 r7 r8 r9 hlt K1
      | some p =>
        obtain ⟨l, L1⟩ := p
        rw [e1] at K1
        obtain ⟨hl1, hl2, hl3, hl4⟩ := readK_has e1
        have z1 : L.length = l.size + L1.length := by rw [hl2, List.length_append, rowsT_length]
        have K2 : ∀ w' ao n c, Rdr w' (.slice ao n c) L1 → Calls Try.prog 76 #[.bool xg, .slice ao n c, .int .i64 (h : Int)] w' fun e w'' => RdGave w' (readK h xg L1) e w'' := fun w' ao n c hr' =>
          readKid_any xg _ _ _ h L1 w' hr' (fun w2 hr2 => ih L1 _ _ _ w2 (by omega) (by omega) hr2)
        simp only
        cases e2' : readK h xg L1 with
        | none =>
          rw [e2'] at K2
          exact readNode_right b off n c h A ps po pl pn xr xl xg xc xb xn l L1 w hn hnp hn1 hnc h1c hw hw' hf hA r0 r1 r2 r3 r4 r5 r6 r7 r8 r9 hlt K1 K2
        | some p =>
          obtain ⟨r, L2⟩ := p
          rw [e2'] at K2
          obtain ⟨hr1, hr2, hr3, hr4⟩ := readK_has e2'
          have z2 : L1.length = r.size + L2.length := by rw [hr2, List.length_append, rowsT_length]
          subst hl1 hr1
          have hfi : ((Tr.mk (some (xr, l, ⟨ps, po, pl, pn⟩, r)))).fine := ⟨⟨hl4, (fitB_iff ps po pl pn).1 hf, hr4⟩, by simp only [Tr.size]; omega⟩
          simp only
          unfold closeN
          by_cases c1 : (((Tr.mk (some (xr, l, ⟨ps, po, pl, pn⟩, r)))).size : Int) = xc
          · subst c1
            by_cases c2 : ((Tr.mk (some (xr, l, ⟨ps, po, pl, pn⟩, r)))).byt = xb
            · subst c2
              by_cases c3 : ((Tr.mk (some (xr, l, ⟨ps, po, pl, pn⟩, r)))).lin = xn
              · subst c3
                have k := readNode_eq b off n c h A ps po pl pn xr l r L1 L2 w hn hnp hn1 hnc h1c hw hw' hf hA r0 r1 r2 r3 r4 r5 r6 r7 r8 r9 hlt hfi K1 K2
                cases eb : balB xr l r with
                | true =>
                  rw [if_pos ⟨eqRw_iff.2 rfl, rfl⟩]
                  rw [eb] at k
                  exact k
                | false =>
                  rw [if_neg (by simp)]
                  rw [eb] at k
                  refine k.mono ?_
                  rintro e w' ⟨⟨a, ao, n, c, rfl, -⟩, hb⟩
                  exact ⟨⟨_, _, rfl⟩, hb⟩
              · rw [if_neg (by intro hh; apply c3; have := congrArg Rw.lin (eqRw_iff.1 hh.1); exact this)]
                refine (readNode_ne3 b off n c h A ps po pl pn xr l r L1 L2 xn w hn hnp hn1 hnc h1c hw hw' hf hA r0 r1 r2 r3 r4 r5 r6 r7 r8 r9 hlt hfi (by simpa using c3) K1 K2).mono ?_
                rintro e w' ⟨⟨a, ao, n, c, rfl, -⟩, hb⟩
                exact ⟨⟨_, _, rfl⟩, hb⟩
            · rw [if_neg (by intro hh; apply c2; have := congrArg Rw.byt (eqRw_iff.1 hh.1); exact this)]
              refine (readNode_ne2 b off n c h A ps po pl pn xr l r L1 L2 xb xn w hn hnp hn1 hnc h1c hw hw' hf hA r0 r1 r2 r3 r4 r5 r6 r7 r8 r9 hlt hfi (by simpa using c2) K1 K2).mono ?_
              rintro e w' ⟨⟨a, ao, n, c, rfl, -⟩, hb⟩
              exact ⟨⟨_, _, rfl⟩, hb⟩
          · rw [if_neg (by intro hh; apply c1; have := congrArg Rw.cnt (eqRw_iff.1 hh.1); exact this)]
            refine (readNode_ne1 b off n c h A ps po pl pn xr l r L1 L2 xc xb xn w hn hnp hn1 hnc h1c hw hw' hf hA r0 r1 r2 r3 r4 r5 r6 r7 r8 r9 hlt hfi (by simpa using c1) K1 K2).mono ?_
            rintro e w' ⟨⟨a, ao, n, c, rfl, -⟩, hb⟩
            exact ⟨⟨_, _, rfl⟩, hb⟩

theorem rcells_at {L : List Rw} {j : Nat} {p : Rw} (h : L[j]? = some p) (i : Nat) (hi : i < 10) : (rcells L)[j * 10 + i]? = p.cs[i]? := by
  induction L generalizing j with
  | nil => simp at h
  | cons q L ih =>
    rw [rcells_cons]
    cases j with
    | zero =>
      simp at h; subst h
      rw [Nat.zero_mul, Nat.zero_add, List.getElem?_append_left (by simp [Rw.cs]; omega)]
    | succ j =>
      rw [List.getElem?_cons_succ] at h
      rw [List.getElem?_append_right (by simp [Rw.cs]; omega)]
      rw [← ih h]
      congr 1
      simp [Rw.cs]; omega
theorem own_rowR {w : World} {base n cap g : Nat} {L : List Rw} (h : w.ownsRow base 72 10 (.slice (some ⟨g, 0, none⟩) n cap) n (rcells L)) : RowR w g 0 L := by
  have hl : n = L.length := by have := h.1; rw [rcells_length] at this; omega
  intro j p hj
  have hlt := (List.getElem?_eq_some_iff.1 hj).1
  have c := fun i (hi : i < 10) => (h.cellAt (j * 10 + i) (by omega)).trans (rcells_at hj i hi)
  rw [Nat.zero_add]
  exact ⟨by simpa [Rw.cs] using c 0 (by omega), by simpa [Rw.cs] using c 1 (by omega), by simpa [Rw.cs] using c 2 (by omega), by simpa [Rw.cs] using c 3 (by omega), by simpa [Rw.cs] using c 4 (by omega), by simpa [Rw.cs] using c 5 (by omega), by simpa [Rw.cs] using c 6 (by omega), by simpa [Rw.cs] using c 7 (by omega), by simpa [Rw.cs] using c 8 (by omega), by simpa [Rw.cs] using c 9 (by omega)⟩
theorem own_rdr {w : World} {base n : Nat} {v : Value} {L : List Rw} (h : w.ownsRow base 72 10 v n (rcells L)) : Rdr w v L := by
  have hl : n = L.length := by have := h.1; rw [rcells_length] at this; omega
  rcases h.2 with ⟨rfl, rfl⟩ | ⟨g, cap, cur, rfl, hb, hg, h1, h2, h3, h4⟩
  · exact ⟨_, _, _, rfl, hl, Nat.le_refl _, .inl (List.eq_nil_of_length_eq_zero hl.symm)⟩
  · exact ⟨_, _, _, rfl, hl, h1, .inr ⟨g, 0, rfl, own_rowR h⟩⟩

/-! ### Check -/
set_option maxHeartbeats 400000 in
theorem Check_nil (ao : Option Addr) (c : Nat) (w : World) : Calls Try.prog 23 #[.slice ao 0 c] w fun e w' => e = .returned (.int .i64 0) ∧ w' = w := by
  go_enter Try.func23, Try.ntmps23
  go_wp2
  go_ret
  exact ⟨rfl, rfl⟩
set_option maxHeartbeats 400000 in
theorem Check_none (ao : Option Addr) (n c : Nat) (w : World) (hn : ((n : Int) == 0) = false) (hz : n ≤ 1048576) (K : Hid (Calls Try.prog 56 #[.slice ao n c, .int .i64 ((2 * Lib.bitLen n : Nat) : Int)] w fun e w' => RdGave w none e w')) :
    Calls Try.prog 23 #[.slice ao n c] w fun e w' => e = .returned (.int .i64 21) ∧ Below w.heap.size w w' := by
  go_enter Try.func23, Try.ntmps23
  go_wp2_with (first | (go_at_call 57; refine (highest_any n _ hz).mono ?_; rintro e w' ⟨rfl, rfl⟩)
                     | (go_at_call 56; refine K.out.mono ?_; rintro e w9 ⟨⟨v1, v2, rfl⟩, hb9⟩))
  go_ret
  exact ⟨rfl, hb9⟩
set_option maxHeartbeats 400000 in
theorem Check_more (ao : Option Addr) (n c : Nat) (t : Tr) (x : Rw) (L : List Rw) (w : World) (hn : ((n : Int) == 0) = false) (hz : n ≤ 1048576) (K : Hid (Calls Try.prog 56 #[.slice ao n c, .int .i64 ((2 * Lib.bitLen n : Nat) : Int)] w fun e w' => RdGave w (some (t, x :: L)) e w')) :
    Calls Try.prog 23 #[.slice ao n c] w fun e w' => e = .returned (.int .i64 21) ∧ Below w.heap.size w w' := by
  go_enter Try.func23, Try.ntmps23
  go_wp2_with (first | (go_at_call 57; refine (highest_any n _ hz).mono ?_; rintro e w' ⟨rfl, rfl⟩)
                     | (go_at_call 56; refine K.out.mono ?_; rintro e w9 ⟨⟨a9, ao9, n9, c9, rfl, hat9, hrd9⟩, hb9⟩; have hl9 : (0 : Int) < (n9 : Int) := by (obtain ⟨_, _, _, q1, q2, -⟩ := hrd9; simp at q1 q2; omega)))
  go_ret
  exact ⟨rfl, hb9⟩
set_option maxHeartbeats 400000 in
theorem Check_all (ao : Option Addr) (n c : Nat) (t : Tr) (w : World) (hn : ((n : Int) == 0) = false) (hz : n ≤ 1048576) (r : Bool) (ht : t.red = r) (K : Hid (Calls Try.prog 56 #[.slice ao n c, .int .i64 ((2 * Lib.bitLen n : Nat) : Int)] w fun e w' => RdGave w (some (t, [])) e w')) :
    Calls Try.prog 23 #[.slice ao n c] w fun e w' => e = .returned (.int .i64 (if r = true then 21 else 0)) ∧ Below w.heap.size w w' := by
  cases r with
  | true =>
    go_enter Try.func23, Try.ntmps23
    go_wp2_with (first | (go_at_call 57; refine (highest_any n _ hz).mono ?_; rintro e w' ⟨rfl, rfl⟩)
                       | (go_at_call 56; refine K.out.mono ?_; rintro e w9 ⟨⟨a9, ao9, n9, c9, rfl, hat9, hrd9⟩, hb9⟩; have hl9 : n9 = 0 := by (obtain ⟨_, _, _, q1, q2, -⟩ := hrd9; simp at q1 q2; omega))
                       | (go_at_call 58; refine (isRed_eq t _ true _ ht hat9).mono ?_; rintro e w' ⟨rfl, rfl⟩))
    go_ret
    exact ⟨rfl, hb9⟩
  | false =>
    go_enter Try.func23, Try.ntmps23
    go_wp2_with (first | (go_at_call 57; refine (highest_any n _ hz).mono ?_; rintro e w' ⟨rfl, rfl⟩)
                       | (go_at_call 56; refine K.out.mono ?_; rintro e w9 ⟨⟨a9, ao9, n9, c9, rfl, hat9, hrd9⟩, hb9⟩; have hl9 : n9 = 0 := by (obtain ⟨_, _, _, q1, q2, -⟩ := hrd9; simp at q1 q2; omega))
                       | (go_at_call 58; refine (isRed_eq t _ false _ ht hat9).mono ?_; rintro e w' ⟨rfl, rfl⟩))
    go_ret
    exact ⟨rfl, hb9⟩

theorem Check_any (L : List Rw) (v : Value) (w : World) (hz : L.length ≤ 1048576) (hr : Rdr w v L) :
    Calls Try.prog 23 #[v] w fun e w' => e = .returned (.int .i64 (if checkB L = true then 0 else 21)) ∧ Below w.heap.size w w' := by
  obtain ⟨ao, n, c, rfl, e2, e3, e4⟩ := id hr
  cases L with
  | nil =>
    have : n = 0 := e2
    subst this
    refine (Check_nil ao c w).mono ?_
    rintro e w' ⟨rfl, rfl⟩
    exact ⟨rfl, Below.refl _ _⟩
  | cons x L =>
    have hn : ((n : Int) == 0) = false := by rw [beq_eq_false_iff_ne]; simp at e2; omega
    have hb := bitLen_small n (by omega)
    have k := readNode_any (2 * Lib.bitLen n) (x :: L) ao n c w (by omega) hz hr
    have ec : checkB (x :: L) = match readN (2 * Lib.bitLen n) (x :: L) with | some (t, []) => !t.red | _ => false := by rw [e2]; rfl
    rw [ec]
    cases e : readN (2 * Lib.bitLen n) (x :: L) with
    | none => rw [e] at k; exact Check_none ao n c w hn (by omega) k
    | some p =>
      obtain ⟨t, rest⟩ := p
      rw [e] at k
      cases rest with
      | cons y M => exact Check_more ao n c t y M w hn (by omega) k
      | nil =>
        have := Check_all ao n c t w hn (by omega) t.red rfl k
        refine this.mono ?_
        rintro e w' ⟨rfl, hb⟩
        refine ⟨?_, hb⟩
        simp only
        congr 2
        by_cases ht : t.red = true
        · rw [if_pos ht, if_neg (by simp [ht])]
        · rw [if_neg ht, if_pos (by simpa using ht)]
end Go.Proofs.Ytcaegdfbbjfgpaa

/- What the walk of the reference's look leans on: the stack of trees as a row of its own. -/
namespace Go.Proofs.Ytcaegdfbbjfgpaa
open Go.RowKit

/-- what the reference knows of a tree -/
def sn (t : Tr) : List Value := [.bool t.red, .int .i64 (t.bh : Nat), .int .i64 (t.ht : Nat), .int .i64 (t.size : Nat), .int .i64 t.byt, .int .i64 t.lin]
/-- the stack: the first tree on top -/
def scells : List Tr → List Value
  | [] => []
  | t :: F => scells F ++ sn t
theorem scells_length : ∀ F : List Tr, (scells F).length = F.length * 6
  | [] => rfl
  | t :: F => by simp only [scells, List.length_append, scells_length F, List.length_cons]; simp [sn]; omega
theorem info93 : (Try.prog.info? 93).map (fun i => (i.zero, i.size, i.bytes)) = some (some (.agg #[.bool false, .int .i64 0, .int .i64 0, .int .i64 0, .int .i64 0, .int .i64 0]), 6, 48) := by kernel_rfl

/-- the stack without its top -/
theorem own_pop {w : World} {base n cap g : Nat} {xs ys : List Value} (h : w.ownsRow base 93 6 (.slice (some ⟨g, 0, none⟩) (n + 1) cap) (n + 1) (xs ++ ys)) (hx : xs.length = n * 6) : w.ownsRow base 93 6 (.slice (some ⟨g, 0, none⟩) n cap) n xs := by
  refine ⟨hx, ?_⟩
  rcases h.2 with ⟨h1, _⟩ | ⟨g', cap', cur, h1, hb, hg, h2, h3, h4, h5⟩
  · simp at h1
  · have e : g = g' ∧ cap = cap' := by simp at h1; exact h1
    obtain ⟨rfl, rfl⟩ := e
    refine .inr ⟨g, cap, cur, rfl, hb, hg, by omega, h3, h4, ?_⟩
    have e2 : cur.toList.take (n * 6) = (cur.toList.take ((n + 1) * 6)).take (n * 6) := by rw [List.take_take]; congr 1; omega
    rw [e2, h5, ← hx]; simp
/-- the top of the stack -/
theorem own_top {w : World} {base cap g : Nat} {t : Tr} {F : List Tr} (h : w.ownsRow base 93 6 (.slice (some ⟨g, 0, none⟩) (F.length + 1) cap) (F.length + 1) (scells (t :: F))) :
    w.cell? ⟨g, F.length * 6, none⟩ = some (.bool t.red) ∧ w.cell? ⟨g, F.length * 6 + 1, none⟩ = some (.int .i64 (t.bh : Nat)) ∧ w.cell? ⟨g, F.length * 6 + 2, none⟩ = some (.int .i64 (t.ht : Nat)) ∧ w.cell? ⟨g, F.length * 6 + 3, none⟩ = some (.int .i64 (t.size : Nat)) ∧ w.cell? ⟨g, F.length * 6 + 4, none⟩ = some (.int .i64 t.byt) ∧ w.cell? ⟨g, F.length * 6 + 5, none⟩ = some (.int .i64 t.lin) := by
  have c : ∀ i, i < 6 → w.cell? ⟨g, F.length * 6 + i, none⟩ = (sn t)[i]? := fun i hi => by
    rw [h.cellAt (F.length * 6 + i) (by omega)]
    simp only [scells]
    rw [List.getElem?_append_right (by rw [scells_length]; omega), scells_length]
    congr 1; omega
  exact ⟨by simpa [sn] using c 0 (by omega), by simpa [sn] using c 1 (by omega), by simpa [sn] using c 2 (by omega), by simpa [sn] using c 3 (by omega), by simpa [sn] using c 4 (by omega), by simpa [sn] using c 5 (by omega)⟩
theorem own_form {w : World} {base n : Nat} {v : Value} {xs : List Value} (h : w.ownsRow base 93 6 v (n + 1) xs) : ∃ g cap, v = .slice (some ⟨g, 0, none⟩) (n + 1) cap ∧ n + 1 ≤ cap := by
  rcases h.2 with ⟨_, h0⟩ | ⟨g, cap, cur, rfl, _, _, h1, _⟩
  · omega
  · exact ⟨g, cap, rfl, h1⟩

theorem lookF_none : ∀ (L : List Rw) (j : Nat), lookF (L.drop j) = none → lookF L = none
  | [], j, h => by simpa using h
  | x :: L, 0, h => by simpa using h
  | x :: L, j + 1, h => by
    have := lookF_none L j (by simpa using h)
    simp only [lookF, this]
theorem sn_one (t : Tr) : ∀ u ∈ sn t, u.oneCell' = true := by
  intro u hu
  simp only [sn, List.mem_cons, List.not_mem_nil, or_false] at hu
  rcases hu with rfl | rfl | rfl | rfl | rfl | rfl <;> rfl
end Go.Proofs.Ytcaegdfbbjfgpaa

/- The contract of the reference's look. -/
namespace Go.Proofs.Ytcaegdfbbjfgpaa
open Go.RowKit

theorem Hid.mk' {p : Prop} (h : p) : Hid p := h
theorem len_rowsF : ∀ {F : List Tr}, GoodF F → F.length ≤ (rowsF F).length
  | [], _ => Nat.zero_le _
  | t :: F, h => by
    have a := len_rowsF (F := F) (fun u hu => h u (List.mem_cons_of_mem _ hu))
    have b := (h t (List.mem_cons_self ..)).1
    have c : 1 ≤ (rowsT t).length := by
      cases t using Tr.el with
      | nil => cases b
      | node c l p r => simp only [rowsT, List.length_cons]; omega
    simp only [rowsF, List.flatMap_cons, List.length_append, List.length_cons] at *
    omega
theorem okF_none {L : List Rw} (h : lookF L = none) : okF (lookF L) = false := by rw [h]; rfl

/-- a block of six cells, of ten -/
def Blk (W : World) (B : Nat) (e : Nat) (cs : Array Value) : Prop := W.heap[B]? = some (.cells cs e (0, 0))
theorem Blk.cell {W : World} {B e j : Nat} {cs : Array Value} {v : Value} (h : Blk W B e cs) (hj : cs[j]? = some v) : W.cell? ⟨B, j, none⟩ = some v := by
  rw [cell_of_row W B j cs e (0, 0) h]; exact hj
theorem Blk.frozen {W : World} {B e : Nat} {cs : Array Value} (h : Blk W B e cs) (j : Nat) : W.frozen? ⟨B, j, none⟩ = false := frozen_of_row W B j cs e h
theorem Blk.lt {W : World} {B e : Nat} {cs : Array Value} (h : Blk W B e cs) : B < W.heap.size := (Array.getElem?_eq_some_iff.1 h).1
theorem Blk.keep {W W' : World} {B e : Nat} {cs : Array Value} (h : Blk W B e cs) (hb : Below W.heap.size W W') : Blk W' B e cs := by unfold Blk; rw [hb.block B h.lt]; exact h
theorem Blk.alloc {W : World} {B e : Nat} {cs : Array Value} (h : Blk W B e cs) (o : Obj) : Blk (W.alloc o) B e cs := h.keep (bAlloc (Below.refl _ _) o)
theorem Blk.new (W : World) (e : Nat) (cs : Array Value) : Blk (W.alloc (.cells cs e)) W.heap.size e cs := heap_alloc_new W _
def put6 (W : World) (B : Nat) (a0 a1 a2 a3 a4 a5 : Value) : World := (((((W.setCell ⟨B, 0, none⟩ a0).setCell ⟨B, 1, none⟩ a1).setCell ⟨B, 2, none⟩ a2).setCell ⟨B, 3, none⟩ a3).setCell ⟨B, 4, none⟩ a4).setCell ⟨B, 5, none⟩ a5
theorem Blk.put {W : World} {B e : Nat} {x0 x1 x2 x3 x4 x5 : Value} (h : Blk W B e #[x0, x1, x2, x3, x4, x5]) (a0 a1 a2 a3 a4 a5 : Value) : Blk (put6 W B a0 a1 a2 a3 a4 a5) B e #[a0, a1, a2, a3, a4, a5] :=
  heap_setCell_same _ _ _ _ _ _ (heap_setCell_same _ _ _ _ _ _ (heap_setCell_same _ _ _ _ _ _ (heap_setCell_same _ _ _ _ _ _ (heap_setCell_same _ _ _ _ _ _ (heap_setCell_same _ _ _ _ _ _ h)))))
theorem Blk.far {W : World} {B B' e : Nat} {cs : Array Value} (h : Blk W B' e cs) (hne : B' ≠ B) (a0 a1 a2 a3 a4 a5 : Value) : Blk (put6 W B a0 a1 a2 a3 a4 a5) B' e cs := by
  unfold Blk put6
  rw [heap_setCell_other _ _ _ _ hne, heap_setCell_other _ _ _ _ hne, heap_setCell_other _ _ _ _ hne, heap_setCell_other _ _ _ _ hne, heap_setCell_other _ _ _ _ hne, heap_setCell_other _ _ _ _ hne]; exact h
theorem put6_below {a W : World} {n B : Nat} (h : Below n a W) (hb : n ≤ B) (a0 a1 a2 a3 a4 a5 : Value) : Below n a (put6 W B a0 a1 a2 a3 a4 a5) :=
  (((((h.setCell hb a0).setCell hb a1).setCell hb a2).setCell hb a3).setCell hb a4).setCell hb a5
/-- what the reference knows of a tree, as a block -/
def snA (t : Tr) : Array Value := #[.bool t.red, .int .i64 (t.bh : Nat), .int .i64 (t.ht : Nat), .int .i64 (t.size : Nat), .int .i64 t.byt, .int .i64 t.lin]
def z6 : Array Value := #[.bool false, .int .i64 0, .int .i64 0, .int .i64 0, .int .i64 0, .int .i64 0]
theorem snA_nil : snA (Tr.mk none) = z6 := rfl
def xA (ps po pl pn : Int) (xr xl xg : Bool) (xc xb xn : Int) : Array Value := #[.int .i64 ps, .int .i64 po, .int .i64 pl, .int .i64 pn, .bool xr, .bool xl, .bool xg, .int .i64 xc, .int .i64 xb, .int .i64 xn]

/-- what the round holds ahead of a node's sums -/
structure Kids (wr W : World) (ps po pl pn : Int) (xr xl xg : Bool) (xc xb xn : Int) (l r : Tr) : Prop where
  x : Blk W wr.heap.size 72 (xA ps po pl pn xr xl xg xc xb xn)
  l : Blk W (wr.heap.size + 1) 93 (snA l)
  r : Blk W (wr.heap.size + 2) 93 (snA r)
  b : Below wr.heap.size wr W
theorem Kids.cells {wr W : World} {ps po pl pn : Int} {xr xl xg : Bool} {xc xb xn : Int} {l r : Tr} (h : Kids wr W ps po pl pn xr xl xg xc xb xn l r) :
    (W.cell? ⟨wr.heap.size, 0, none⟩ = some (.int .i64 ps) ∧ W.cell? ⟨wr.heap.size, 1, none⟩ = some (.int .i64 po) ∧ W.cell? ⟨wr.heap.size, 2, none⟩ = some (.int .i64 pl) ∧ W.cell? ⟨wr.heap.size, 3, none⟩ = some (.int .i64 pn) ∧ W.cell? ⟨wr.heap.size, 4, none⟩ = some (.bool xr) ∧ W.cell? ⟨wr.heap.size, 5, none⟩ = some (.bool xl) ∧ W.cell? ⟨wr.heap.size, 6, none⟩ = some (.bool xg) ∧ W.cell? ⟨wr.heap.size, 7, none⟩ = some (.int .i64 xc) ∧ W.cell? ⟨wr.heap.size, 8, none⟩ = some (.int .i64 xb) ∧ W.cell? ⟨wr.heap.size, 9, none⟩ = some (.int .i64 xn)) ∧
    (W.cell? ⟨wr.heap.size + 1, 0, none⟩ = some (.bool l.red) ∧ W.cell? ⟨wr.heap.size + 1, 1, none⟩ = some (.int .i64 (l.bh : Nat)) ∧ W.cell? ⟨wr.heap.size + 1, 2, none⟩ = some (.int .i64 (l.ht : Nat)) ∧ W.cell? ⟨wr.heap.size + 1, 3, none⟩ = some (.int .i64 (l.size : Nat)) ∧ W.cell? ⟨wr.heap.size + 1, 4, none⟩ = some (.int .i64 l.byt) ∧ W.cell? ⟨wr.heap.size + 1, 5, none⟩ = some (.int .i64 l.lin)) ∧
    (W.cell? ⟨wr.heap.size + 2, 0, none⟩ = some (.bool r.red) ∧ W.cell? ⟨wr.heap.size + 2, 1, none⟩ = some (.int .i64 (r.bh : Nat)) ∧ W.cell? ⟨wr.heap.size + 2, 2, none⟩ = some (.int .i64 (r.ht : Nat)) ∧ W.cell? ⟨wr.heap.size + 2, 3, none⟩ = some (.int .i64 (r.size : Nat)) ∧ W.cell? ⟨wr.heap.size + 2, 4, none⟩ = some (.int .i64 r.byt) ∧ W.cell? ⟨wr.heap.size + 2, 5, none⟩ = some (.int .i64 r.lin)) :=
  ⟨⟨h.x.cell rfl, h.x.cell rfl, h.x.cell rfl, h.x.cell rfl, h.x.cell rfl, h.x.cell rfl, h.x.cell rfl, h.x.cell rfl, h.x.cell rfl, h.x.cell rfl⟩, ⟨h.l.cell rfl, h.l.cell rfl, h.l.cell rfl, h.l.cell rfl, h.l.cell rfl, h.l.cell rfl⟩, ⟨h.r.cell rfl, h.r.cell rfl, h.r.cell rfl, h.r.cell rfl, h.r.cell rfl, h.r.cell rfl⟩⟩
theorem Kids.putL {wr W : World} {ps po pl pn : Int} {xr xl xg : Bool} {xc xb xn : Int} {l r : Tr} (h : Kids wr W ps po pl pn xr xl xg xc xb xn l r) (t : Tr) : Kids wr (put6 W (wr.heap.size + 1) (.bool t.red) (.int .i64 (t.bh : Nat)) (.int .i64 (t.ht : Nat)) (.int .i64 (t.size : Nat)) (.int .i64 t.byt) (.int .i64 t.lin)) ps po pl pn xr xl xg xc xb xn t r :=
  ⟨h.x.far (by omega) _ _ _ _ _ _, h.l.put _ _ _ _ _ _, h.r.far (by omega) _ _ _ _ _ _, put6_below h.b (by omega) _ _ _ _ _ _⟩
theorem Kids.putR {wr W : World} {ps po pl pn : Int} {xr xl xg : Bool} {xc xb xn : Int} {l r : Tr} (h : Kids wr W ps po pl pn xr xl xg xc xb xn l r) (t : Tr) : Kids wr (put6 W (wr.heap.size + 2) (.bool t.red) (.int .i64 (t.bh : Nat)) (.int .i64 (t.ht : Nat)) (.int .i64 (t.size : Nat)) (.int .i64 t.byt) (.int .i64 t.lin)) ps po pl pn xr xl xg xc xb xn l t :=
  ⟨h.x.far (by omega) _ _ _ _ _ _, h.l.far (by omega) _ _ _ _ _ _, h.r.put _ _ _ _ _ _, put6_below h.b (by omega) _ _ _ _ _ _⟩
theorem kids0 (wr : World) (ps po pl pn : Int) (xr xl xg : Bool) (xc xb xn : Int) : Kids wr (((wr.alloc (.cells (xA ps po pl pn xr xl xg xc xb xn) 72)).alloc (.cells z6 93)).alloc (.cells z6 93)) ps po pl pn xr xl xg xc xb xn (Tr.mk none) (Tr.mk none) := by
  refine ⟨((Blk.new wr 72 _).alloc _).alloc _, ?_, ?_, bAlloc (bAlloc (bAlloc (Below.refl _ _) _) _) _⟩
  · have h := (Blk.new (wr.alloc (.cells (xA ps po pl pn xr xl xg xc xb xn) 72)) 93 z6).alloc (.cells z6 93)
    rw [snA_nil]
    simpa using h
  · have h := Blk.new ((wr.alloc (.cells (xA ps po pl pn xr xl xg xc xb xn) 72)).alloc (.cells z6 93)) 93 z6
    rw [snA_nil]
    simpa using h
theorem blk6 {W : World} {B e : Nat} {x0 x1 x2 x3 x4 x5 : Value} (h : Blk W B e #[x0, x1, x2, x3, x4, x5]) : W.cell? ⟨B, 0, none⟩ = some x0 ∧ W.cell? ⟨B, 1, none⟩ = some x1 ∧ W.cell? ⟨B, 2, none⟩ = some x2 ∧ W.cell? ⟨B, 3, none⟩ = some x3 ∧ W.cell? ⟨B, 4, none⟩ = some x4 ∧ W.cell? ⟨B, 5, none⟩ = some x5 :=
  ⟨h.cell rfl, h.cell rfl, h.cell rfl, h.cell rfl, h.cell rfl, h.cell rfl⟩
theorem bT {a b c : World} (h : Below a.heap.size a b) (k : Below b.heap.size b c) : Below a.heap.size a c := h.trans (k.mono h.size)
theorem Kids.keep {wr W W' : World} {ps po pl pn : Int} {xr xl xg : Bool} {xc xb xn : Int} {l r : Tr} (h : Kids wr W ps po pl pn xr xl xg xc xb xn l r) (hb : Below W.heap.size W W') : Kids wr W' ps po pl pn xr xl xg xc xb xn l r :=
  ⟨h.x.keep hb, h.l.keep hb, h.r.keep hb, bT h.b hb⟩
/-- is the node right, by what was reckoned? -/
def goodN (pl pn : Int) (xr : Bool) (xc xb xn : Int) (l r : Tr) (BY LI : Int) : Bool := fitB pl pn && (decide ((l.bh : Int) = (r.bh : Int)) && (!(xr && (l.red || r.red)) && (decide (xc = 1 + (l.size : Int) + (r.size : Int)) && (decide (xb = BY) && decide (xn = LI)))))
theorem goodN_fit {pl pn : Int} {xr : Bool} {xc xb xn : Int} {l r : Tr} {BY LI : Int} (h : fitB pl pn = false) : goodN pl pn xr xc xb xn l r BY LI = false := by simp [goodN, h]
theorem goodN_bh {pl pn : Int} {xr : Bool} {xc xb xn : Int} {l r : Tr} {BY LI : Int} (h : ¬ (l.bh : Int) = (r.bh : Int)) : goodN pl pn xr xc xb xn l r BY LI = false := by unfold goodN; simp [h]
theorem goodN_red {pl pn : Int} {xr : Bool} {xc xb xn : Int} {l r : Tr} {BY LI : Int} (h : (xr && (l.red || r.red)) = true) : goodN pl pn xr xc xb xn l r BY LI = false := by unfold goodN; rw [h]; simp
theorem goodN_cnt {pl pn : Int} {xr : Bool} {xc xb xn : Int} {l r : Tr} {BY LI : Int} (h : ¬ xc = 1 + (l.size : Int) + (r.size : Int)) : goodN pl pn xr xc xb xn l r BY LI = false := by unfold goodN; simp [h]
theorem goodN_byt {pl pn : Int} {xr : Bool} {xc xb xn : Int} {l r : Tr} {BY LI : Int} (h : ¬ xb = BY) : goodN pl pn xr xc xb xn l r BY LI = false := by unfold goodN; simp [h]
theorem goodN_lin {pl pn : Int} {xr : Bool} {xc xb xn : Int} {l r : Tr} {BY LI : Int} (h : ¬ xn = LI) : goodN pl pn xr xc xb xn l r BY LI = false := by unfold goodN; simp [h]
theorem goodN_all {pl pn : Int} {xr : Bool} {xc xb xn : Int} {l r : Tr} {BY LI : Int} (h0 : fitB pl pn = true) (h1 : (l.bh : Int) = (r.bh : Int)) (h2 : (xr && (l.red || r.red)) = false) (h3 : xc = 1 + (l.size : Int) + (r.size : Int)) (h4 : xb = BY) (h5 : xn = LI) : goodN pl pn xr xc xb xn l r BY LI = true := by unfold goodN; rw [h0, h2]; simp [h1, h3, h4, h5]
/-- The sums of a node, as the reference reckons them. -/
theorem look_sums {xr : Bool} {l r : Tr} {ps po pl pn : Int} (hl : l.fits) (hr : r.fits) (hz : l.size + r.size ≤ 65536) (hf : fitB pl pn = true) :
    wrap64 (wrap64 (pl + l.byt) + r.byt) = (Tr.mk (some (xr, l, ⟨ps, po, pl, pn⟩, r))).byt ∧ wrap64 (wrap64 (pn + l.lin) + r.lin) = (Tr.mk (some (xr, l, ⟨ps, po, pl, pn⟩, r))).lin := by
  have a := l.fits_bounds hl
  have b := r.fits_bounds hr
  have p := (fitB_iff ps po pl pn).1 hf
  simp only [Tr.byt, Tr.lin, Pc.fit] at *
  refine ⟨?_, ?_⟩
  · rw [w64 (x := pl + l.byt) (by omega) (by omega), w64 (by omega) (by omega)]; omega
  · rw [w64 (x := pn + l.lin) (by omega) (by omega), w64 (by omega) (by omega)]; omega
theorem goodN_iff {xr : Bool} {l r : Tr} {ps po pl pn xc xb xn : Int} {BY LI : Int} (hl : l.fits) (hr : r.fits) (hz : l.size + r.size ≤ 65536) (hby : wrap64 (wrap64 (pl + l.byt) + r.byt) = BY) (hli : wrap64 (wrap64 (pn + l.lin) + r.lin) = LI) :
    goodN pl pn xr xc xb xn l r BY LI = true ↔ (fitB pl pn = true ∧ balB xr l r = true ∧ xc = ((Tr.mk (some (xr, l, ⟨ps, po, pl, pn⟩, r))).size : Nat) ∧ xb = (Tr.mk (some (xr, l, ⟨ps, po, pl, pn⟩, r))).byt ∧ xn = (Tr.mk (some (xr, l, ⟨ps, po, pl, pn⟩, r))).lin) := by
  have e : ((Tr.mk (some (xr, l, ⟨ps, po, pl, pn⟩, r))).size : Nat) = 1 + l.size + r.size := by simp only [Tr.size]; omega
  have e2 : (((1 + l.size + r.size : Nat)) : Int) = 1 + (l.size : Int) + (r.size : Int) := by push_cast; rfl
  rw [e, e2]
  cases hf : fitB pl pn with
  | false => simp [goodN, hf]
  | true =>
    obtain ⟨h1, h2⟩ := look_sums (xr := xr) (ps := ps) (po := po) hl hr hz hf
    rw [← h1, ← h2, hby, hli]
    unfold goodN balB
    rw [hf]
    simp only [Bool.true_and, Bool.and_eq_true, decide_eq_true_eq, true_and, and_assoc, Int.natCast_inj]
theorem step_yes {xr xl xg : Bool} {l r : Tr} {ps po pl pn xc xb xn : Int} {BY LI : Int} {F F1 F2 : List Tr} (hl : l.fits) (hr : r.fits) (hz : l.size + r.size ≤ 65536) (hby : wrap64 (wrap64 (pl + l.byt) + r.byt) = BY) (hli : wrap64 (wrap64 (pn + l.lin) + r.lin) = LI)
    (h1 : popF xl F = some (l, F1)) (h2 : popF xg F1 = some (r, F2)) (hg : goodN pl pn xr xc xb xn l r BY LI = true) : stepF ⟨⟨ps, po, pl, pn⟩, xr, xl, xg, xc, xb, xn⟩ F = some (Tr.mk (some (xr, l, ⟨ps, po, pl, pn⟩, r)) :: F2) := by
  unfold stepF
  simp only
  rw [h1]
  simp only
  rw [h2]
  simp only
  rw [if_pos ((goodN_iff hl hr hz hby hli).1 hg)]
theorem step_no {xr xl xg : Bool} {l r : Tr} {ps po pl pn xc xb xn : Int} {BY LI : Int} {F F1 F2 : List Tr} (hl : l.fits) (hr : r.fits) (hz : l.size + r.size ≤ 65536) (hby : wrap64 (wrap64 (pl + l.byt) + r.byt) = BY) (hli : wrap64 (wrap64 (pn + l.lin) + r.lin) = LI)
    (h1 : popF xl F = some (l, F1)) (h2 : popF xg F1 = some (r, F2)) (hg : goodN pl pn xr xc xb xn l r BY LI = false) : stepF ⟨⟨ps, po, pl, pn⟩, xr, xl, xg, xc, xb, xn⟩ F = none := by
  unfold stepF
  simp only
  rw [h1]
  simp only
  rw [h2]
  simp only
  rw [if_neg (fun h => by rw [(goodN_iff (ps := ps) (po := po) hl hr hz hby hli).2 h] at hg; cases hg)]
theorem own_keep' {w w' : World} {base e size n : Nat} {v : Value} {xs : List Value} (h : w.ownsRow base e size v n xs) (hb : Below w.heap.size w w') : w'.ownsRow base e size v n xs := by
  refine ⟨h.1, ?_⟩
  rcases h.2 with h0 | ⟨g, cap, cur, rfl, hb', hg, rest⟩
  · exact .inl h0
  · exact .inr ⟨g, cap, cur, rfl, hb', by rw [hb.block g (Array.getElem?_eq_some_iff.1 hg).1]; exact hg, rest⟩
theorem scells_bot : ∀ (F : List Tr) (t : Tr), ∃ bt X, scells (t :: F) = sn bt ++ X ∧ (F = [] → bt = t)
  | [], t => ⟨t, [], by simp [scells], fun _ => rfl⟩
  | u :: F, t => by
    obtain ⟨bt, X, h, _⟩ := scells_bot F u
    exact ⟨bt, X ++ sn t, by rw [scells, h, List.append_assoc], fun e => by cases e⟩
theorem own_bot {w : World} {base cap g : Nat} {t : Tr} {F : List Tr} (h : w.ownsRow base 93 6 (.slice (some ⟨g, 0, none⟩) (F.length + 1) cap) (F.length + 1) (scells (t :: F))) :
    ∃ bt : Tr, (F = [] → bt = t) ∧ w.cell? ⟨g, 0, none⟩ = some (.bool bt.red) ∧ w.cell? ⟨g, 1, none⟩ = some (.int .i64 (bt.bh : Nat)) ∧ w.cell? ⟨g, 2, none⟩ = some (.int .i64 (bt.ht : Nat)) ∧ w.cell? ⟨g, 3, none⟩ = some (.int .i64 (bt.size : Nat)) ∧ w.cell? ⟨g, 4, none⟩ = some (.int .i64 bt.byt) ∧ w.cell? ⟨g, 5, none⟩ = some (.int .i64 bt.lin) := by
  obtain ⟨bt, X, e, hb⟩ := scells_bot F t
  rw [e] at h
  have c : ∀ i, i < 6 → w.cell? ⟨g, i, none⟩ = (sn bt)[i]? := fun i hi => by
    rw [h.cellAt i (by omega), List.getElem?_append_left (by simp [sn]; omega)]
  exact ⟨bt, hb, by simpa [sn] using c 0 (by omega), by simpa [sn] using c 1 (by omega), by simpa [sn] using c 2 (by omega), by simpa [sn] using c 3 (by omega), by simpa [sn] using c 4 (by omega), by simpa [sn] using c 5 (by omega)⟩
theorem put6_cell {W : World} {g B : Nat} (hne : ¬ g = B) (a0 a1 a2 a3 a4 a5 : Value) (j : Nat) : (put6 W B a0 a1 a2 a3 a4 a5).cell? ⟨g, j, none⟩ = W.cell? ⟨g, j, none⟩ := by
  have h : ((put6 W B a0 a1 a2 a3 a4 a5).heap[g]?) = W.heap[g]? := by
    unfold put6
    rw [heap_setCell_other _ _ _ _ hne, heap_setCell_other _ _ _ _ hne, heap_setCell_other _ _ _ _ hne, heap_setCell_other _ _ _ _ hne, heap_setCell_other _ _ _ _ hne, heap_setCell_other _ _ _ _ hne]
  exact World.cell?_of_block (a := ⟨g, j, none⟩) h
theorem six_far {W : World} {g B : Nat} (hne : ¬ g = B) {a0 a1 a2 a3 a4 a5 c0 c1 c2 c3 c4 c5 : Value} (h : W.cell? ⟨g, 0, none⟩ = some c0 ∧ W.cell? ⟨g, 1, none⟩ = some c1 ∧ W.cell? ⟨g, 2, none⟩ = some c2 ∧ W.cell? ⟨g, 3, none⟩ = some c3 ∧ W.cell? ⟨g, 4, none⟩ = some c4 ∧ W.cell? ⟨g, 5, none⟩ = some c5) :
    (put6 W B a0 a1 a2 a3 a4 a5).cell? ⟨g, 0, none⟩ = some c0 ∧ (put6 W B a0 a1 a2 a3 a4 a5).cell? ⟨g, 1, none⟩ = some c1 ∧ (put6 W B a0 a1 a2 a3 a4 a5).cell? ⟨g, 2, none⟩ = some c2 ∧ (put6 W B a0 a1 a2 a3 a4 a5).cell? ⟨g, 3, none⟩ = some c3 ∧ (put6 W B a0 a1 a2 a3 a4 a5).cell? ⟨g, 4, none⟩ = some c4 ∧ (put6 W B a0 a1 a2 a3 a4 a5).cell? ⟨g, 5, none⟩ = some c5 := by
  rw [put6_cell hne, put6_cell hne, put6_cell hne, put6_cell hne, put6_cell hne, put6_cell hne]; exact h
theorem drew_cell (W : World) (p : Addr) : W.drew.cell? p = W.cell? p := rfl
theorem six_far_drew {W : World} {g B : Nat} (hne : ¬ g = B) {a0 a1 a2 a3 a4 a5 c0 c1 c2 c3 c4 c5 : Value} (h : W.cell? ⟨g, 0, none⟩ = some c0 ∧ W.cell? ⟨g, 1, none⟩ = some c1 ∧ W.cell? ⟨g, 2, none⟩ = some c2 ∧ W.cell? ⟨g, 3, none⟩ = some c3 ∧ W.cell? ⟨g, 4, none⟩ = some c4 ∧ W.cell? ⟨g, 5, none⟩ = some c5) :
    (put6 W B a0 a1 a2 a3 a4 a5).drew.cell? ⟨g, 0, none⟩ = some c0 ∧ (put6 W B a0 a1 a2 a3 a4 a5).drew.cell? ⟨g, 1, none⟩ = some c1 ∧ (put6 W B a0 a1 a2 a3 a4 a5).drew.cell? ⟨g, 2, none⟩ = some c2 ∧ (put6 W B a0 a1 a2 a3 a4 a5).drew.cell? ⟨g, 3, none⟩ = some c3 ∧ (put6 W B a0 a1 a2 a3 a4 a5).drew.cell? ⟨g, 4, none⟩ = some c4 ∧ (put6 W B a0 a1 a2 a3 a4 a5).drew.cell? ⟨g, 5, none⟩ = some c5 := by
  rw [drew_cell, drew_cell, drew_cell, drew_cell, drew_cell, drew_cell]
  exact six_far hne h
end Go.Proofs.Ytcaegdfbbjfgpaa

