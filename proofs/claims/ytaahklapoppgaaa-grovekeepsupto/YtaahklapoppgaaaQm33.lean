/- The reference's nodeRight. -/
import Derived.Test.YtaahklapoppgaaaQm32
import Derived.Test.YtaahklapoppgaaaQm15
namespace Go.Proofs.Ytaahklapoppgaaa
open Go.RowKit

set_option maxRecDepth 8000
theorem yi_cv {ops : Array Oper} {S : World → Prop} {op : Oper} {a : Act} {v u : Value} (hw : Region.wanted op (yielded ops a.tmps) = true) (t1 t2 : TypeId) (x : Operand) (ho : op.op = .convert t1 t2 x) (hx : a.eval x = u) (hr : ∀ w, S w → (convert t1 t2 u).run Try.prog w = .ok v w) : YieldsIf Try.prog ops S op v a :=
  .inl ⟨hw, fun w h => by
    unfold execOp
    simp only [ho]
    rw [hx]
    simp only [Sem.run_bind, hr w h, Result.andThen_ok, Sem.run_pure]⟩
/-- what nodeRight reads -/
structure Rn (W : World) (b g k : Nat) (ea : Option Addr) (en ec : Nat) (a : Int) (p1 : Option Addr) (o1 c1 : Nat) (p2 : Option Addr) (n2 c2 : Nat) (O N : List UInt8) : Prop where
  s2 : W.cell? ⟨b, 2, none⟩ = some (.slice ea en ec)
  e3 : Ed3 W g k a p1 o1 c1 p2 n2 c2
  t1 : Tx W p1 o1 c1 O
  t2 : Tx W p2 n2 c2 N
theorem eq9 (x y : List UInt8) (W : World) : (binOp .eql 9 (.string ⟨x.toArray⟩) (.string ⟨y.toArray⟩)).run Try.prog W = .ok (.bool (x == y)) W := by
  simp [binOp, Op.stringOp]
theorem str_ne {O N : List UInt8} (h : O ≠ N) : (⟨O.toArray⟩ : ByteArray) ≠ ⟨N.toArray⟩ := fun e => h (by have := congrArg (fun b : ByteArray => b.data.toList) e; simpa using this)
set_option maxHeartbeats 8000000 in
set_option linter.unusedSimpArgs false in
theorem rnode_any (r : Nr) (i : Int) (w : World) (HZ : Hid (Nz w r)) : Calls Try.prog 42 #[.agg (nd r), .int .i64 i] w fun e w' => e = .returned (.bool (tb ((0 ≤ r.par ∧ r.par < i) ∧ Sound r.d))) ∧ Below w.heap.size w w' := by
  have hwl := HZ.out.ww.len
  have hml := HZ.out.wm.len
  obtain ⟨W1, hW1⟩ : ∃ x, w.alloc (.cells (nd r) 63) = x := ⟨_, rfl⟩
  obtain ⟨b, hb⟩ : ∃ b, w.heap.size = b := ⟨_, rfl⟩
  have HL : Hid (Below w.heap.size w W1) := by unfold Hid; rw [← hW1]; exact bAlloc (Below.refl _ _) _
  have HN : Hid (Nb W1 b r) := by unfold Hid; rw [← hW1, ← hb]; exact Nb.of (Blk.new w 63 _) hwl
  have c0 := HN.out.c0
  have c2 := HN.out.c2
  have c3 := HN.out.c3
  have M1 := mkH HN.out.m1
  have M2 := mkH HN.out.m2
  have CA := fun V => rmarks_any r.was hwl V
  have CB := fun V => rmarks_any r.made hml V
  have HE := mkH (HZ.out.ez)
  have hlen := HZ.out.len
  have HBG : Hid (r.en ≤ 140737488355328) := by have := HZ.out.big; unfold Hid; omega
  obtain ⟨D, hD⟩ : ∃ D : Prop, ((0 ≤ r.par ∧ r.par < i) ∧ Sound r.d) = D := ⟨_, rfl⟩
  have HD : Hid (D ↔ (0 ≤ r.par ∧ r.par < i) ∧ (0 ≤ r.cur ∧ r.cur ≤ 2147483647) ∧ r.E.map Er.d ≠ [] ∧ (∀ d ∈ r.E.map Er.d, EdOk d) ∧ MOk r.was ∧ MOk r.made) := by unfold Hid; rw [← hD]; exact Iff.rfl
  rw [hD]
  clear hD
  obtain ⟨nr, hnr⟩ : ∃ x, nd r = x := ⟨_, rfl⟩
  rw [hnr] at hW1
  rw [hnr]
  have HNR := mkH hnr
  clear hnr HZ
  obtain ⟨was, hwas⟩ : ∃ x, r.was = x := ⟨_, rfl⟩
  obtain ⟨made, hmade⟩ : ∃ x, r.made = x := ⟨_, rfl⟩
  obtain ⟨par, hpar⟩ : ∃ x, r.par = x := ⟨_, rfl⟩
  obtain ⟨cur, hcur⟩ : ∃ x, r.cur = x := ⟨_, rfl⟩
  obtain ⟨E, hE⟩ : ∃ x, r.E = x := ⟨_, rfl⟩
  obtain ⟨ea, hea⟩ : ∃ x, r.ea = x := ⟨_, rfl⟩
  obtain ⟨en, hen⟩ : ∃ x, r.en = x := ⟨_, rfl⟩
  obtain ⟨ec, hec⟩ : ∃ x, r.ec = x := ⟨_, rfl⟩
  rw [hwas] at hwl CA M1 HD
  rw [hmade] at hml CB M2 HD
  rw [hpar] at c0 HD
  rw [hcur] at c3 HD
  rw [hE] at HE hlen HD
  rw [hea] at HE c2
  rw [hen] at hlen c2 HBG
  rw [hec] at c2
  clear hwas hmade hpar hcur hE hea hen hec
  have HLE := mkH hlen
  clear hlen
  go_enter Try.func42, Try.ntmps42
  go_upto_region 1 with fail
  clear hW1 hb
  by_cases q0 : par < 0
  · have hq : Hid (tb D = false) := tb_f (fun hd => by have h := HD.out.1 hd; omega)
    clear CA CB
    go_wp2
    go_ret
    refine ⟨?_, HL.out⟩
    rw [hq.out]; rfl
  · skip
    by_cases q1 : i ≤ par
    · have hq : Hid (tb D = false) := tb_f (fun hd => by have h := HD.out.1 hd; omega)
      clear CA CB
      go_wp2
      go_ret
      refine ⟨?_, HL.out⟩
      rw [hq.out]; rfl
    · skip
      by_cases q2 : cur < 0
      · have hq : Hid (tb D = false) := tb_f (fun hd => by have h := HD.out.1 hd; omega)
        clear CA CB
        go_wp2
        go_ret
        refine ⟨?_, HL.out⟩
        rw [hq.out]; rfl
      · skip
        by_cases q3 : 2147483647 < cur
        · have hq : Hid (tb D = false) := tb_f (fun hd => by have h := HD.out.1 hd; omega)
          clear CA CB
          go_wp2
          go_ret
          refine ⟨?_, HL.out⟩
          rw [hq.out]; rfl
        · skip
          by_cases q4 : en = 0
          · have hq : Hid (tb D = false) := tb_f (fun hd => by have h := HD.out.1 hd; have := HLE.out; have e0 : E = [] := List.eq_nil_of_length_eq_zero (by omega); exact h.2.2.1 (by rw [e0]; rfl))
            have z4 : ((en : Int) == 0) = true := by rw [beq_iff_eq]; omega
            clear CA CB
            go_wp2
            go_ret
            refine ⟨?_, HL.out⟩
            rw [hq.out]; rfl
          · skip
            have z4 : ((en : Int) == 0) = false := by rw [beq_eq_false_iff_ne]; omega
            by_cases q5 : ¬ MOk was
            · have hq : Hid (tb D = false) := tb_f (fun hd => by have h := HD.out.1 hd; exact q5 h.2.2.2.2.1)
              rw [tb_f q5] at CA
              replace CA := mkH CA
              clear q5
              go_wp2_with (first | refine wl_ld41g (B := b) (o := 31) (.tmp 38) rfl rfl rfl hml MB.out ?_ | refine wl_ld41g (B := b) (o := 4) (.tmp 32) rfl rfl rfl hwl M1.out ?_ | (go_at_call 55; refine (CB.out w2).mono ?_; rintro e w3 ⟨rfl, hb3⟩; have HB3 := mkH (bT HB2.out hb3); have d3 := cell_keep d2 hb3; clear hb3) | (go_at_call 55; refine (CA.out W1).mono ?_; rintro e w2 ⟨rfl, hb2⟩; have MB := mkH (range_keep M2.out hb2); have HB2 := mkH hb2; have d2 := cell_keep c2 hb2; clear hb2) | fail)
              go_ret
              refine ⟨?_, (HL.out.trans (HB2.out.mono HL.out.size))⟩
              rw [hq.out]; rfl
            · skip
              replace q5 : MOk was := Classical.not_not.1 q5
              by_cases q6 : ¬ MOk made
              · have hq : Hid (tb D = false) := tb_f (fun hd => by have h := HD.out.1 hd; exact q6 h.2.2.2.2.2)
                rw [tb_t q5] at CA
                rw [tb_f q6] at CB
                replace CA := mkH CA
                replace CB := mkH CB
                clear q5 q6
                go_wp2_with (first | refine wl_ld41g (B := b) (o := 31) (.tmp 38) rfl rfl rfl hml MB.out ?_ | refine wl_ld41g (B := b) (o := 4) (.tmp 32) rfl rfl rfl hwl M1.out ?_ | (go_at_call 55; refine (CB.out w2).mono ?_; rintro e w3 ⟨rfl, hb3⟩; have HB3 := mkH (bT HB2.out hb3); have d3 := cell_keep d2 hb3; clear hb3) | (go_at_call 55; refine (CA.out W1).mono ?_; rintro e w2 ⟨rfl, hb2⟩; have MB := mkH (range_keep M2.out hb2); have HB2 := mkH hb2; have d2 := cell_keep c2 hb2; clear hb2) | fail)
                go_ret
                refine ⟨?_, (HL.out.trans (HB3.out.mono HL.out.size))⟩
                rw [hq.out]; rfl
              · skip
                replace q6 : MOk made := Classical.not_not.1 q6
                rw [tb_t q5] at CA
                rw [tb_t q6] at CB
                replace CA := mkH CA
                replace CB := mkH CB
                have Q56 := mkH (And.intro q5 q6)
                clear q5 q6
                have QE : Hid (E.map Er.d ≠ []) := by unfold Hid; intro e; have := congrArg List.length e; rw [List.length_map, HLE.out] at this; simp at this; omega
                go_wp2_with (first | refine wl_ld41g (B := b) (o := 31) (.tmp 38) rfl rfl rfl hml MB.out ?_ | refine wl_ld41g (B := b) (o := 4) (.tmp 32) rfl rfl rfl hwl M1.out ?_ | (go_at_call 55; refine (CB.out w2).mono ?_; rintro e w3 ⟨rfl, hb3⟩; have HB3 := mkH (bT HB2.out hb3); have d3 := cell_keep d2 hb3; clear hb3) | (go_at_call 55; refine (CA.out W1).mono ?_; rintro e w2 ⟨rfl, hb2⟩; have MB := mkH (range_keep M2.out hb2); have HB2 := mkH hb2; have d2 := cell_keep c2 hb2; clear hb2) | fail)
                have QP : Hid ((0 ≤ par ∧ par < i) ∧ (0 ≤ cur ∧ cur ≤ 2147483647)) := by unfold Hid; omega
                clear q0 q1 q2 q3 q4 z4 c0 c2 c3 CA CB HB2 d2
                go_loopg [5] en (fun m x5 wx => ∃ j : Nat, x5 = .int .i64 (j : Int) ∧ j + m = en ∧ Hid (∀ k x, k < j → E[k]? = some x → EdOk x.d) ∧ Hid (Below W1.heap.size W1 wx) ∧ Hid (wx.cell? ⟨b, 2, none⟩ = some (.slice ea en ec)))
                case atStart => exact ⟨0, rfl, by omega, (fun k x hk => by omega), HB3.out, d3⟩
                
                case round =>
                  obtain ⟨j, rfl, hjm, KI, KB, KC⟩ := hrel
                  obtain ⟨go, hgo⟩ : ∃ g, g = gk - 1 := ⟨_, rfl⟩
                  have kc := KC.out
                  by_cases hj : j < en
                  · have hj' : (j : Int) < (en : Int) := by omega
                    have hj0 : (0 : Int) ≤ (j : Int) := by omega
                    have hw8 : IntKind.i64.wrap ((j : Int) + 1) = ((j + 1 : Nat) : Int) := by rw [IntKind.wrap_i64]; have := HBG.out; omega
                    obtain ⟨x, hx⟩ : ∃ x, E[j]? = some x := ⟨_, List.getElem?_eq_getElem (by have := HLE.out; omega)⟩
                    have HX := mkH hx
                    have HXD : Hid (x.d ∈ E.map Er.d) := List.mem_map.2 ⟨x, List.mem_of_getElem? hx, rfl⟩
                    obtain ⟨g, o, rfl, h3⟩ := HE.out.row.ed3 hx
                    have LB : Hid (Below W1.heap.size W1 wr.drew) := KB.out.drew
                    have LD : Hid (Below w.heap.size w wr.drew) := HL.out.trans (LB.out.mono HL.out.size)
                    have h4 := h3.keep LD.out
                    have ht := (HE.out.txs j x hx).keep LD.out
                    have kd : wr.drew.cell? ⟨b, 2, none⟩ = some (.slice (some ⟨g, o, none⟩) en ec) := kc
                    obtain ⟨xa, xp1, xo, xc1, xO, xp2, xn, xc2, xN⟩ := x
                    dsimp only [Er.d] at h4 ht HXD
                    have t0 := h4.e0
                    have t1 := h4.e1
                    have t2 := h4.e2
                    have v1 := conv_tx ht.t1
                    have v2 := conv_tx ht.t2
                    dsimp only at v1 v2
                    clear h3 h4 ht hx KB KC
                    by_cases p0 : xa < 0
                    · have hq : Hid (tb D = false) := tb_f (fun hd => by have h := ((HD.out.1 hd).2.2.2.1 _ HXD.out).1; dsimp only at h; omega)
                      go_upto_region 6 with fail
                      refine wp_region_held (S := fun w' => w' = wr.drew) (by kernel_rfl) ?_
                      change wpAnyH _ _ _ _ _ _ _ _ (World.drew _)
                      generalize wr.drew = V3 at *
                      refine tk 0 (.pointer (some ⟨b, 2, none⟩)) rfl ?_
                      refine ta 1 (.slice (some ⟨g, o, none⟩) en ec) rfl (Or.inl ⟨by rfl, fun w9 h9 => by subst h9; go_simp⟩) rfl ?_
                      refine tk 2 (.int .i64 (j : Int)) rfl ?_
                      refine tk 3 (.pointer (some ⟨g, o + j * 3, none⟩)) rfl ?_
                      try simp only [Act.put, jj1, jj2, jj3, jj4, jj5, jj6]
                      refine tk 4 (.pointer (some ⟨g, o + j * 3, none⟩)) rfl ?_
                      refine ta 5 (.int .i64 xa) rfl (Or.inl ⟨by rfl, fun w9 h9 => by subst h9; go_simp⟩) rfl ?_
                      refine tk 6 (.bool true) rfl ?_
                      refine tk 7 (.bool true) rfl ?_
                      try simp only [Act.put, jj1, jj2, jj3, jj4, jj5, jj6]
                      refine ta 8 undef rfl (Or.inr ⟨by rfl, rfl⟩) rfl ?_
                      refine ta 9 undef rfl (Or.inr ⟨by rfl, rfl⟩) rfl ?_
                      refine ta 10 undef rfl (Or.inr ⟨by rfl, rfl⟩) rfl ?_
                      refine ta 11 undef rfl (Or.inr ⟨by rfl, rfl⟩) rfl ?_
                      try simp only [Act.put, jj1, jj2, jj3, jj4, jj5, jj6]
                      refine ta 12 undef rfl (Or.inr ⟨by rfl, rfl⟩) rfl ?_
                      refine ta 13 undef rfl (Or.inr ⟨by rfl, rfl⟩) rfl ?_
                      refine ta 14 undef rfl (Or.inr ⟨by rfl, rfl⟩) rfl ?_
                      refine tk 15 (.bool true) rfl ?_
                      try simp only [Act.put, jj1, jj2, jj3, jj4, jj5, jj6]
                      refine tk 16 (.bool true) rfl ?_
                      refine ta 17 undef rfl (Or.inr ⟨by rfl, rfl⟩) rfl ?_
                      refine ta 18 undef rfl (Or.inr ⟨by rfl, rfl⟩) rfl ?_
                      refine ta 19 undef rfl (Or.inr ⟨by rfl, rfl⟩) rfl ?_
                      try simp only [Act.put, jj1, jj2, jj3, jj4, jj5, jj6]
                      refine ta 20 undef rfl (Or.inr ⟨by rfl, rfl⟩) rfl ?_
                      refine ta 21 undef rfl (Or.inr ⟨by rfl, rfl⟩) rfl ?_
                      refine ta 22 undef rfl (Or.inr ⟨by rfl, rfl⟩) rfl ?_
                      refine ta 23 undef rfl (Or.inr ⟨by rfl, rfl⟩) rfl ?_
                      try simp only [Act.put, jj1, jj2, jj3, jj4, jj5, jj6]
                      refine ta 24 undef rfl (Or.inr ⟨by rfl, rfl⟩) rfl ?_
                      refine ta 25 undef rfl (Or.inr ⟨by rfl, rfl⟩) rfl ?_
                      refine ta 26 undef rfl (Or.inr ⟨by rfl, rfl⟩) rfl ?_
                      refine ta 27 undef rfl (Or.inr ⟨by rfl, rfl⟩) rfl ?_
                      try simp only [Act.put, jj1, jj2, jj3, jj4, jj5, jj6]
                      refine ta 28 undef rfl (Or.inr ⟨by rfl, rfl⟩) rfl ?_
                      refine ta 29 undef rfl (Or.inr ⟨by rfl, rfl⟩) rfl ?_
                      refine ta 30 undef rfl (Or.inr ⟨by rfl, rfl⟩) rfl ?_
                      refine ta 31 undef rfl (Or.inr ⟨by rfl, rfl⟩) rfl ?_
                      try simp only [Act.put, jj1, jj2, jj3, jj4, jj5, jj6]
                      refine tk 32 (.bool true) rfl ?_
                      try simp only [Act.put, jj1, jj2, jj3, jj4, jj5, jj6]
                      refine wpAnyH_done (by kernel_rfl) ?_ _
                      go_wp2
                      go_ret
                      refine ⟨?_, LD.out⟩
                      rw [hq.out]; rfl
                    · by_cases p1 : 2147483647 < xa
                      · have hq : Hid (tb D = false) := tb_f (fun hd => by have h := ((HD.out.1 hd).2.2.2.1 _ HXD.out).1; dsimp only at h; omega)
                        go_upto_region 6 with fail
                        refine wp_region_held (S := fun w' => w' = wr.drew) (by kernel_rfl) ?_
                        change wpAnyH _ _ _ _ _ _ _ _ (World.drew _)
                        generalize wr.drew = V3 at *
                        refine tk 0 (.pointer (some ⟨b, 2, none⟩)) rfl ?_
                        refine ta 1 (.slice (some ⟨g, o, none⟩) en ec) rfl (Or.inl ⟨by rfl, fun w9 h9 => by subst h9; go_simp⟩) rfl ?_
                        refine tk 2 (.int .i64 (j : Int)) rfl ?_
                        refine tk 3 (.pointer (some ⟨g, o + j * 3, none⟩)) rfl ?_
                        try simp only [Act.put, jj1, jj2, jj3, jj4, jj5, jj6]
                        refine tk 4 (.pointer (some ⟨g, o + j * 3, none⟩)) rfl ?_
                        refine ta 5 (.int .i64 xa) rfl (Or.inl ⟨by rfl, fun w9 h9 => by subst h9; go_simp⟩) rfl ?_
                        refine tk 6 (.bool false) rfl ?_
                        refine tk 7 (.bool false) rfl ?_
                        try simp only [Act.put, jj1, jj2, jj3, jj4, jj5, jj6]
                        refine tk 8 (.pointer (some ⟨b, 2, none⟩)) rfl ?_
                        refine ta 9 (.slice (some ⟨g, o, none⟩) en ec) rfl (Or.inl ⟨by rfl, fun w9 h9 => by subst h9; go_simp⟩) rfl ?_
                        refine tk 10 (.int .i64 (j : Int)) rfl ?_
                        refine tk 11 (.pointer (some ⟨g, o + j * 3, none⟩)) rfl ?_
                        try simp only [Act.put, jj1, jj2, jj3, jj4, jj5, jj6]
                        refine tk 12 (.pointer (some ⟨g, o + j * 3, none⟩)) rfl ?_
                        refine ta 13 (.int .i64 xa) rfl (Or.inl ⟨by rfl, fun w9 h9 => by subst h9; go_simp⟩) rfl ?_
                        refine tk 14 (.bool true) rfl ?_
                        refine tk 15 (.bool true) rfl ?_
                        try simp only [Act.put, jj1, jj2, jj3, jj4, jj5, jj6]
                        refine tk 16 (.bool true) rfl ?_
                        refine ta 17 undef rfl (Or.inr ⟨by rfl, rfl⟩) rfl ?_
                        refine ta 18 undef rfl (Or.inr ⟨by rfl, rfl⟩) rfl ?_
                        refine ta 19 undef rfl (Or.inr ⟨by rfl, rfl⟩) rfl ?_
                        try simp only [Act.put, jj1, jj2, jj3, jj4, jj5, jj6]
                        refine ta 20 undef rfl (Or.inr ⟨by rfl, rfl⟩) rfl ?_
                        refine ta 21 undef rfl (Or.inr ⟨by rfl, rfl⟩) rfl ?_
                        refine ta 22 undef rfl (Or.inr ⟨by rfl, rfl⟩) rfl ?_
                        refine ta 23 undef rfl (Or.inr ⟨by rfl, rfl⟩) rfl ?_
                        try simp only [Act.put, jj1, jj2, jj3, jj4, jj5, jj6]
                        refine ta 24 undef rfl (Or.inr ⟨by rfl, rfl⟩) rfl ?_
                        refine ta 25 undef rfl (Or.inr ⟨by rfl, rfl⟩) rfl ?_
                        refine ta 26 undef rfl (Or.inr ⟨by rfl, rfl⟩) rfl ?_
                        refine ta 27 undef rfl (Or.inr ⟨by rfl, rfl⟩) rfl ?_
                        try simp only [Act.put, jj1, jj2, jj3, jj4, jj5, jj6]
                        refine ta 28 undef rfl (Or.inr ⟨by rfl, rfl⟩) rfl ?_
                        refine ta 29 undef rfl (Or.inr ⟨by rfl, rfl⟩) rfl ?_
                        refine ta 30 undef rfl (Or.inr ⟨by rfl, rfl⟩) rfl ?_
                        refine ta 31 undef rfl (Or.inr ⟨by rfl, rfl⟩) rfl ?_
                        try simp only [Act.put, jj1, jj2, jj3, jj4, jj5, jj6]
                        refine tk 32 (.bool true) rfl ?_
                        try simp only [Act.put, jj1, jj2, jj3, jj4, jj5, jj6]
                        refine wpAnyH_done (by kernel_rfl) ?_ _
                        go_wp2
                        go_ret
                        refine ⟨?_, LD.out⟩
                        rw [hq.out]; rfl
                      · by_cases p2 : xO = xN
                        · have hq : Hid (tb D = false) := tb_f (fun hd => ((HD.out.1 hd).2.2.2.1 _ HXD.out).2 p2)
                          subst p2
                          have e9 : ∀ W, (binOp .eql 9 (.string ⟨xO.toArray⟩) (.string ⟨xO.toArray⟩)).run Try.prog W = .ok (.bool true) W := fun W => by rw [eq9, beq_self_eq_true]
                          go_upto_region 6 with fail
                          refine wp_region_held (S := fun w' => w' = wr.drew) (by kernel_rfl) ?_
                          change wpAnyH _ _ _ _ _ _ _ _ (World.drew _)
                          generalize wr.drew = V3 at *
                          refine tk 0 (.pointer (some ⟨b, 2, none⟩)) rfl ?_
                          refine ta 1 (.slice (some ⟨g, o, none⟩) en ec) rfl (Or.inl ⟨by rfl, fun w9 h9 => by subst h9; go_simp⟩) rfl ?_
                          refine tk 2 (.int .i64 (j : Int)) rfl ?_
                          refine tk 3 (.pointer (some ⟨g, o + j * 3, none⟩)) rfl ?_
                          try simp only [Act.put, jj1, jj2, jj3, jj4, jj5, jj6]
                          refine tk 4 (.pointer (some ⟨g, o + j * 3, none⟩)) rfl ?_
                          refine ta 5 (.int .i64 xa) rfl (Or.inl ⟨by rfl, fun w9 h9 => by subst h9; go_simp⟩) rfl ?_
                          refine tk 6 (.bool false) rfl ?_
                          refine tk 7 (.bool false) rfl ?_
                          try simp only [Act.put, jj1, jj2, jj3, jj4, jj5, jj6]
                          refine tk 8 (.pointer (some ⟨b, 2, none⟩)) rfl ?_
                          refine ta 9 (.slice (some ⟨g, o, none⟩) en ec) rfl (Or.inl ⟨by rfl, fun w9 h9 => by subst h9; go_simp⟩) rfl ?_
                          refine tk 10 (.int .i64 (j : Int)) rfl ?_
                          refine tk 11 (.pointer (some ⟨g, o + j * 3, none⟩)) rfl ?_
                          try simp only [Act.put, jj1, jj2, jj3, jj4, jj5, jj6]
                          refine tk 12 (.pointer (some ⟨g, o + j * 3, none⟩)) rfl ?_
                          refine ta 13 (.int .i64 xa) rfl (Or.inl ⟨by rfl, fun w9 h9 => by subst h9; go_simp⟩) rfl ?_
                          refine tk 14 (.bool false) rfl ?_
                          refine tk 15 (.bool false) rfl ?_
                          try simp only [Act.put, jj1, jj2, jj3, jj4, jj5, jj6]
                          refine tk 16 (.bool false) rfl ?_
                          refine tk 17 (.pointer (some ⟨b, 2, none⟩)) rfl ?_
                          refine ta 18 (.slice (some ⟨g, o, none⟩) en ec) rfl (Or.inl ⟨by rfl, fun w9 h9 => by subst h9; go_simp⟩) rfl ?_
                          refine tk 19 (.int .i64 (j : Int)) rfl ?_
                          try simp only [Act.put, jj1, jj2, jj3, jj4, jj5, jj6]
                          refine tk 20 (.pointer (some ⟨g, o + j * 3, none⟩)) rfl ?_
                          refine tk 21 (.pointer (some ⟨g, o + j * 3 + 1, none⟩)) rfl ?_
                          refine ta 22 (.slice xp1 xo xc1) rfl (Or.inl ⟨by rfl, fun w9 h9 => by subst h9; go_simp⟩) rfl ?_
                          refine ta 23 (.string ⟨xO.toArray⟩) rfl (Or.inl ⟨by rfl, fun w9 h9 => by subst h9; go_simp⟩) rfl ?_
                          try simp only [Act.put, jj1, jj2, jj3, jj4, jj5, jj6]
                          refine tk 24 (.pointer (some ⟨b, 2, none⟩)) rfl ?_
                          refine ta 25 (.slice (some ⟨g, o, none⟩) en ec) rfl (Or.inl ⟨by rfl, fun w9 h9 => by subst h9; go_simp⟩) rfl ?_
                          refine tk 26 (.int .i64 (j : Int)) rfl ?_
                          refine tk 27 (.pointer (some ⟨g, o + j * 3, none⟩)) rfl ?_
                          try simp only [Act.put, jj1, jj2, jj3, jj4, jj5, jj6]
                          refine tk 28 (.pointer (some ⟨g, o + j * 3 + 2, none⟩)) rfl ?_
                          refine ta 29 (.slice xp2 xn xc2) rfl (Or.inl ⟨by rfl, fun w9 h9 => by subst h9; go_simp⟩) rfl ?_
                          refine ta 30 (.string ⟨xO.toArray⟩) rfl (Or.inl ⟨by rfl, fun w9 h9 => by subst h9; go_simp⟩) rfl ?_
                          refine tk 31 (.bool true) rfl ?_
                          try simp only [Act.put, jj1, jj2, jj3, jj4, jj5, jj6]
                          refine tk 32 (.bool true) rfl ?_
                          try simp only [Act.put, jj1, jj2, jj3, jj4, jj5, jj6]
                          refine wpAnyH_done (by kernel_rfl) ?_ _
                          go_wp2
                          go_ret
                          refine ⟨?_, LD.out⟩
                          rw [hq.out]; rfl
                        · have e9 : ∀ W, (binOp .eql 9 (.string ⟨xO.toArray⟩) (.string ⟨xN.toArray⟩)).run Try.prog W = .ok (.bool false) W := fun W => by have e : (xO == xN) = false := beq_eq_false_iff_ne.2 p2; rw [eq9, e]
                          have KJ : Hid (∀ k x, k < j + 1 → E[k]? = some x → EdOk x.d) := fun k x hk hkx => by
                            rcases Nat.lt_or_ge k j with h | h
                            · exact KI.out k x h hkx
                            · obtain rfl : k = j := by omega
                              have e := HX.out
                              rw [hkx] at e
                              cases e
                              exact ⟨⟨by dsimp only [Er.d]; omega, by dsimp only [Er.d]; omega⟩, p2⟩
                          skip
                          go_upto_region 6 with fail
                          refine wp_region_held (S := fun w' => w' = wr.drew) (by kernel_rfl) ?_
                          change wpAnyH _ _ _ _ _ _ _ _ (World.drew _)
                          generalize wr.drew = V3 at *
                          refine tk 0 (.pointer (some ⟨b, 2, none⟩)) rfl ?_
                          refine ta 1 (.slice (some ⟨g, o, none⟩) en ec) rfl (Or.inl ⟨by rfl, fun w9 h9 => by subst h9; go_simp⟩) rfl ?_
                          refine tk 2 (.int .i64 (j : Int)) rfl ?_
                          refine tk 3 (.pointer (some ⟨g, o + j * 3, none⟩)) rfl ?_
                          try simp only [Act.put, jj1, jj2, jj3, jj4, jj5, jj6]
                          refine tk 4 (.pointer (some ⟨g, o + j * 3, none⟩)) rfl ?_
                          refine ta 5 (.int .i64 xa) rfl (Or.inl ⟨by rfl, fun w9 h9 => by subst h9; go_simp⟩) rfl ?_
                          refine tk 6 (.bool false) rfl ?_
                          refine tk 7 (.bool false) rfl ?_
                          try simp only [Act.put, jj1, jj2, jj3, jj4, jj5, jj6]
                          refine tk 8 (.pointer (some ⟨b, 2, none⟩)) rfl ?_
                          refine ta 9 (.slice (some ⟨g, o, none⟩) en ec) rfl (Or.inl ⟨by rfl, fun w9 h9 => by subst h9; go_simp⟩) rfl ?_
                          refine tk 10 (.int .i64 (j : Int)) rfl ?_
                          refine tk 11 (.pointer (some ⟨g, o + j * 3, none⟩)) rfl ?_
                          try simp only [Act.put, jj1, jj2, jj3, jj4, jj5, jj6]
                          refine tk 12 (.pointer (some ⟨g, o + j * 3, none⟩)) rfl ?_
                          refine ta 13 (.int .i64 xa) rfl (Or.inl ⟨by rfl, fun w9 h9 => by subst h9; go_simp⟩) rfl ?_
                          refine tk 14 (.bool false) rfl ?_
                          refine tk 15 (.bool false) rfl ?_
                          try simp only [Act.put, jj1, jj2, jj3, jj4, jj5, jj6]
                          refine tk 16 (.bool false) rfl ?_
                          refine tk 17 (.pointer (some ⟨b, 2, none⟩)) rfl ?_
                          refine ta 18 (.slice (some ⟨g, o, none⟩) en ec) rfl (Or.inl ⟨by rfl, fun w9 h9 => by subst h9; go_simp⟩) rfl ?_
                          refine tk 19 (.int .i64 (j : Int)) rfl ?_
                          try simp only [Act.put, jj1, jj2, jj3, jj4, jj5, jj6]
                          refine tk 20 (.pointer (some ⟨g, o + j * 3, none⟩)) rfl ?_
                          refine tk 21 (.pointer (some ⟨g, o + j * 3 + 1, none⟩)) rfl ?_
                          refine ta 22 (.slice xp1 xo xc1) rfl (Or.inl ⟨by rfl, fun w9 h9 => by subst h9; go_simp⟩) rfl ?_
                          refine ta 23 (.string ⟨xO.toArray⟩) rfl (Or.inl ⟨by rfl, fun w9 h9 => by subst h9; go_simp⟩) rfl ?_
                          try simp only [Act.put, jj1, jj2, jj3, jj4, jj5, jj6]
                          refine tk 24 (.pointer (some ⟨b, 2, none⟩)) rfl ?_
                          refine ta 25 (.slice (some ⟨g, o, none⟩) en ec) rfl (Or.inl ⟨by rfl, fun w9 h9 => by subst h9; go_simp⟩) rfl ?_
                          refine tk 26 (.int .i64 (j : Int)) rfl ?_
                          refine tk 27 (.pointer (some ⟨g, o + j * 3, none⟩)) rfl ?_
                          try simp only [Act.put, jj1, jj2, jj3, jj4, jj5, jj6]
                          refine tk 28 (.pointer (some ⟨g, o + j * 3 + 2, none⟩)) rfl ?_
                          refine ta 29 (.slice xp2 xn xc2) rfl (Or.inl ⟨by rfl, fun w9 h9 => by subst h9; go_simp⟩) rfl ?_
                          refine ta 30 (.string ⟨xN.toArray⟩) rfl (Or.inl ⟨by rfl, fun w9 h9 => by subst h9; go_simp⟩) rfl ?_
                          refine tk 31 (.bool false) rfl ?_
                          try simp only [Act.put, jj1, jj2, jj3, jj4, jj5, jj6]
                          refine tk 32 (.bool false) rfl ?_
                          try simp only [Act.put, jj1, jj2, jj3, jj4, jj5, jj6]
                          refine wpAnyH_done (by kernel_rfl) ?_ _
                          clear t0 t1 t2 v1 v2 e9
                          go_wp2
                          go_roundg go
                          case measure => omega
                          case rel => exact ⟨j + 1, by go_num, by omega, KJ.out, LB.out, kd⟩
                  · have hj' : ¬ (j : Int) < (en : Int) := by omega
                    have hq : Hid (tb D = true) := tb_t (HD.out.2 ⟨QP.out.1, QP.out.2, QE.out, fun d hd => by
                      obtain ⟨x, hx, rfl⟩ := List.mem_map.1 hd
                      obtain ⟨k, hk, rfl⟩ := List.getElem_of_mem hx
                      exact KI.out k _ (by have := HLE.out; omega) (List.getElem?_eq_getElem hk), Q56.out⟩)
                    clear hgo
                    go_wp2
                    go_ret
                    refine ⟨?_, HL.out.trans (KB.out.mono HL.out.size)⟩
                    rw [hq.out]; rfl
end Go.Proofs.Ytaahklapoppgaaa

