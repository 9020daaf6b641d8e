/- The reference's Path. -/
import Derived.Test.YtaahklapoppgaaaQm35
import Derived.Test.YtaahklapoppgaaaQm18
namespace Go.Proofs.Ytaahklapoppgaaa
open Go.RowKit

set_option maxRecDepth 8000
theorem PathQ.of {A B P Q s : List Nat} {w w' : World} {a9 as9 : Option Addr} {c9 cs u : Nat} (hF : strip A B = (P, Q)) (hu : P.length = u) (hs : s = Q.reverse) (h1 : w'.ownsRow w.heap.size 3 1 (.slice a9 u c9) u (iv P)) (h2 : w'.ownsRow w.heap.size 3 1 (.slice as9 s.length cs) s.length (iv s)) (hb : Below w.heap.size w w') : PathQ (strip A B).1 (strip A B).2.reverse 0 w (.returned (.tuple #[.slice a9 u c9, .slice as9 s.length cs, .int .i64 0])) w' := by
  subst hs hu
  rw [hF]
  exact ⟨a9, c9, as9, cs, rfl, h1, h2, hb⟩
set_option maxHeartbeats 16000000 in
set_option linter.unusedSimpArgs false in
theorem rpath_yes (n c f t : Nat) (now : Int) (A B : List Nat) (ao : Option Addr) (w : World) (HLA : Hid (A.length ≤ 4097)) (HLB : Hid (B.length ≤ 4097)) (hf : f < n) (ht : t < n)
    (CC : Hid (∀ W, Below w.heap.size w W → Calls Try.prog 14 #[.agg #[.slice ao n c, .int .i64 now]] W fun e w' => e = .returned (.int .i64 0) ∧ Below W.heap.size W w'))
    (CF : Hid (∀ W, Below w.heap.size w W → Calls Try.prog 43 #[.agg #[.slice ao n c, .int .i64 now], .int .i64 (f : Int)] W fun e w' => RowP A W e w'))
    (CT : Hid (∀ W, Below w.heap.size w W → Calls Try.prog 43 #[.agg #[.slice ao n c, .int .i64 now], .int .i64 (t : Int)] W fun e w' => RowP B W e w')) :
    Calls Try.prog 15 #[.agg #[.slice ao n c, .int .i64 now], .int .i64 (f : Int), .int .i64 (t : Int)] w fun e w' => PathQ (strip A B).1 (strip A B).2.reverse 0 w e w' := by
  obtain ⟨i3, hi3, hz3, hs3, hb3⟩ := info_parts info3
  generalize hW1 : w.alloc (.cells #[.slice ao n c, .int .i64 now] 24) = W1
  have L1 : Hid (Below w.heap.size w W1) := by subst hW1; exact bAlloc (Below.refl _ _) _
  have K1 : Hid (Blk W1 w.heap.size 24 #[.slice ao n c, .int .i64 now]) := by subst hW1; exact Blk.new w 24 _
  have a1 : W1.cell? ⟨w.heap.size, 0, none⟩ = some (.slice ao n c) := K1.out.cell rfl
  have b1 : W1.cell? ⟨w.heap.size, 1, none⟩ = some (.int .i64 now) := K1.out.cell rfl
  obtain ⟨b, hb⟩ : ∃ b, w.heap.size = b := ⟨_, rfl⟩
  have HBb := mkH hb
  rw [hb] at a1 b1 K1
  have hf1 : ¬ (f : Int) < 0 := by omega
  have hf2 : ¬ (n : Int) ≤ (f : Int) := by omega
  have ht1 : ¬ (t : Int) < 0 := by omega
  have ht2 : ¬ (n : Int) ≤ (t : Int) := by omega
  go_enter Try.func15, Try.ntmps15
  go_upto_region 5 with (first | (go_at_call 14; refine (CC.out W1 L1.out).mono ?_; rintro e w2 ⟨rfl, hw⟩; have L2 := mkH (bT L1.out hw); have K2 := mkH (K1.out.keep hw); have a2 := cell_keep a1 hw; clear hw) | fail)
  clear hW1 hb hf1 hf2 ht1 ht2 a1 b1 a2
  have K2d : Hid (Blk w2.drew b 24 #[.slice ao n c, .int .i64 now]) := K2.out
  have L2d : Hid (Below w.heap.size w w2.drew) := L2.out.drew
  refine wp_region_held (S := fun w' => Blk w' b 24 #[.slice ao n c, .int .i64 now]) (by kernel_rfl) ?_
  change wpAnyH _ _ _ _ _ _ _ _ (World.drew _)
  generalize w2.drew = V3 at *
  refine ta 0 (.agg #[.slice ao n c, .int .i64 now]) rfl (Or.inl ⟨by rfl, fun w9 h9 => by obtain ⟨h1, h2⟩ := blk_two h9; go_simp⟩) K2d.out ?_
  refine tk 1 (.int .i64 (f : Int)) K2d.out ?_
  refine ta 3 (.agg #[.slice ao n c, .int .i64 now]) rfl (Or.inl ⟨by rfl, fun w9 h9 => by obtain ⟨h1, h2⟩ := blk_two h9; go_simp⟩) K2d.out ?_
  refine tk 4 (.int .i64 (t : Int)) K2d.out ?_
  try simp only [Act.put, jj1, jj2, jj3, jj4, jj5, jj6]
  refine wpAnyH_all (rs := [2]) (by kernel_rfl) (by simp) (AllH.cons rfl (fun K hK => ?_) AllH.nil)
  go_simp
  refine (CF.out V3 L2d.out).mono ?_
  rintro e w4 ⟨pa, ca, rfl, hO, hB⟩
  have L4 := mkH (bT L2d.out hB)
  have K4 := mkH (K2d.out.keep hB)
  have O4 := mkH (own_lower hO L2d.out.size)
  clear hO hB
  dsimp only
  refine hK _ _ ⟨K4.out, ?_⟩
  clear hK K
  try simp only [Act.put, jj1, jj2, jj3, jj4, jj5, jj6]
  refine wpAnyH_all (rs := [5]) (by kernel_rfl) (by simp) (AllH.cons rfl (fun K hK => ?_) AllH.nil)
  go_simp
  refine (CT.out w4 L4.out).mono ?_
  rintro e w5 ⟨pb, cb, rfl, hO, hB⟩
  have L5 := mkH (bT L4.out hB)
  have K5 := mkH (K4.out.keep hB)
  have O2 := mkH (own_lower hO L4.out.size)
  have O1 := mkH (own_keep O4.out hB)
  clear hO hB
  dsimp only
  refine hK _ _ ⟨K5.out, ?_⟩
  clear hK K
  try simp only [Act.put, jj1, jj2, jj3, jj4, jj5, jj6]
  refine tk 6 (.slice pa A.length ca) K5.out ?_
  refine tk 7 (.slice pb B.length cb) K5.out ?_
  try simp only [Act.put, jj1, jj2, jj3, jj4, jj5, jj6]
  refine wpAnyH_done (by kernel_rfl) ?_ _
  clear K5 K4 K2 K2d O4 CF CT
  go_wp2_with fail
  go_loopg [9, 10] A.length (fun m x9 x10 wx => ∃ (p q : List Nat) (a9 a10 : Option Addr) (c9 c10 : Nat), x9 = .slice a9 p.length c9 ∧ x10 = .slice a10 q.length c10 ∧ Hid (p.length = m) ∧ Hid (strip A B = strip p q) ∧ Hid (q.length ≤ B.length) ∧ Hid (p.length ≤ A.length) ∧ Hid (wx.ownsRow w.heap.size 3 1 (.slice a9 p.length c9) p.length (iv p)) ∧ Hid (wx.ownsRow w.heap.size 3 1 (.slice a10 q.length c10) q.length (iv q)) ∧ Hid (Below w.heap.size w wx))
  case atStart => exact ⟨A, B, pa, pb, ca, cb, rfl, rfl, rfl, rfl, Nat.le_refl _, Nat.le_refl _, O1.out, O2.out, L5.out⟩
  case round =>
    obtain ⟨p, q, a9, a10, c9, c10, rfl, rfl, HGK, HST, HQL, HPL, KP, KQ, KB⟩ := hrel
    have KPd : Hid (wr.drew.ownsRow w.heap.size 3 1 (.slice a9 p.length c9) p.length (iv p)) := own_keep KP.out (Below.refl _ _).drew
    have KQd : Hid (wr.drew.ownsRow w.heap.size 3 1 (.slice a10 q.length c10) q.length (iv q)) := own_keep KQ.out (Below.refl _ _).drew
    have KBd : Hid (Below w.heap.size w wr.drew) := KB.out.drew
    rcases List.eq_nil_or_concat p with rfl | ⟨p1, x, hp1⟩
    · have HFI : Hid (strip A B = ([], q)) := by unfold Hid; rw [HST.out, strip_nil1]
      obtain ⟨v, hv⟩ : ∃ u, q.length = u := ⟨_, rfl⟩
      rw [hv] at KQ KQd HQL
      have HV := mkH hv
      go_upto_region 6 with fail
      rw [hv]
      clear hv
      refine wp_region_held (S := fun w' => w' = wr.drew) (by kernel_rfl) ?_
      change wpAnyH _ _ _ _ _ _ _ _ (World.drew _)
      generalize wr.drew = V3 at *
      refine tk 0 (.slice a9 0 c9) rfl ?_
      refine tk 1 (.int .i64 0) rfl ?_
      refine tk 2 (.bool false) rfl ?_
      try simp only [Act.put, jj1, jj2, jj3, jj4, jj5, jj6]
      refine tk 3 (.bool false) rfl ?_
      refine ta 4 undef rfl (Or.inr ⟨by rfl, rfl⟩) rfl ?_
      refine ta 5 undef rfl (Or.inr ⟨by rfl, rfl⟩) rfl ?_
      refine ta 6 undef rfl (Or.inr ⟨by rfl, rfl⟩) rfl ?_
      try simp only [Act.put, jj1, jj2, jj3, jj4, jj5, jj6]
      refine tk 7 (.bool false) rfl ?_
      refine tk 8 (.bool false) rfl ?_
      refine ta 9 undef rfl (Or.inr ⟨by rfl, rfl⟩) rfl ?_
      refine ta 10 undef rfl (Or.inr ⟨by rfl, rfl⟩) rfl ?_
      try simp only [Act.put, jj1, jj2, jj3, jj4, jj5, jj6]
      refine ta 11 undef rfl (Or.inr ⟨by rfl, rfl⟩) rfl ?_
      refine ta 12 undef rfl (Or.inr ⟨by rfl, rfl⟩) rfl ?_
      refine ta 13 undef rfl (Or.inr ⟨by rfl, rfl⟩) rfl ?_
      refine ta 14 undef rfl (Or.inr ⟨by rfl, rfl⟩) rfl ?_
      try simp only [Act.put, jj1, jj2, jj3, jj4, jj5, jj6]
      refine ta 15 undef rfl (Or.inr ⟨by rfl, rfl⟩) rfl ?_
      refine ta 16 undef rfl (Or.inr ⟨by rfl, rfl⟩) rfl ?_
      refine ta 17 undef rfl (Or.inr ⟨by rfl, rfl⟩) rfl ?_
      refine ta 18 undef rfl (Or.inr ⟨by rfl, rfl⟩) rfl ?_
      try simp only [Act.put, jj1, jj2, jj3, jj4, jj5, jj6]
      refine ta 19 undef rfl (Or.inr ⟨by rfl, rfl⟩) rfl ?_
      refine ta 20 undef rfl (Or.inr ⟨by rfl, rfl⟩) rfl ?_
      refine ta 21 undef rfl (Or.inr ⟨by rfl, rfl⟩) rfl ?_
      refine tk 22 (.bool false) rfl ?_
      try simp only [Act.put, jj1, jj2, jj3, jj4, jj5, jj6]
      refine wpAnyH_done (by kernel_rfl) ?_ _
      clear HST HGK KP KQ HPL
      have hwv : IntKind.i64.wrap ((v : Int) - 1) = (v : Int) - 1 := by rw [IntKind.wrap_i64]; have := HQL.out; have := HLB.out; omega
      have HQV : Hid (q.length = v) := HV.out
      have HQS : Hid (v ≤ 4097) := by have := HQL.out; have := HLB.out; unfold Hid; omega
      obtain ⟨QQ, hQQ⟩ : ∃ q9, q = q9 := ⟨_, rfl⟩
      replace HFI : Hid (strip A B = (([] : List Nat), QQ)) := by unfold Hid; rw [← hQQ]; exact HFI.out
      rw [hQQ] at KQd HQV
      clear hQQ
      go_wp2_with fail
      clear hwv
      go_loopg [11, 12] v (fun m x11 x12 wx => ∃ (z : Int) (s : List Nat) (asx : Option Addr) (cs : Nat), x12 = .int .i64 z ∧ Hid (z = (m : Int) - 1) ∧ x11 = .slice asx s.length cs ∧ Hid (m ≤ v) ∧ Hid (s = (QQ.drop m).reverse) ∧ Hid (wx.ownsRow V3.heap.size 3 1 (.slice asx s.length cs) s.length (iv s)) ∧ Hid (Below V3.heap.size V3 wx))
      case atStart => exact ⟨_, [], none, 0, rfl, rfl, rfl, Nat.le_refl _, by unfold Hid; rw [List.drop_eq_nil_of_le (by rw [HQV.out]; exact Nat.le_refl _)]; rfl, ⟨rfl, .inl ⟨rfl, rfl⟩⟩, Below.refl _ _⟩
      case round =>
        obtain ⟨z, s, asx, cs, rfl, HZ, rfl, HM, HSS, KR, KB2⟩ := hrel
        by_cases hz : gk = 0
        · subst hz
          have hzn : ¬ (0 : Int) ≤ z := by have := HZ.out; omega
          have HSR : Hid (s = QQ.reverse) := HSS.out
          go_wp2
          exact bodyPost_ret (v := .tuple #[.slice a9 0 c9, .slice asx s.length cs, .int .i64 0]) (by simp [results, Try.results15]) rfl (PathQ.of HFI.out (rfl) HSR.out (own_keep KPd.out KB2.out) (own_lower KR.out KBd.out.size) (bT KBd.out KB2.out))
        · obtain ⟨j, hj⟩ : ∃ j, gk = j + 1 := ⟨gk - 1, by omega⟩
          subst hj
          have hzj : z = (j : Int) := by have := HZ.out; omega
          subst hzj
          have hjv : (j : Int) < ((v : Nat) : Int) := by have := HM.out; omega
          have hj0 : (0 : Int) ≤ (j : Int) := by omega
          obtain ⟨y9, hy9⟩ : ∃ y, QQ[j]? = some y := ⟨_, List.getElem?_eq_getElem (by have := HQV.out; have := HM.out; omega)⟩
          obtain ⟨g9, hg9, -, -, hgl⟩ := own_pos KQd.out (by have := HM.out; omega)
          subst hg9
          have e9 : wr.cell? ⟨g9, j, none⟩ = some (.int .i64 (y9 : Int)) := by
            have h1 := own_keep KQd.out KB2.out
            rw [h1.cellAt j (by have := HQV.out; have := HM.out; omega)]
            exact iv_at hy9
          have HS2 : Hid (s ++ [y9] = (QQ.drop j).reverse) := by unfold Hid; obtain ⟨hjq, hye⟩ := List.getElem?_eq_some_iff.1 hy9; rw [HSS.out, List.drop_eq_getElem_cons (i := j) hjq, List.reverse_cons, hye]
          have HLS : Hid (s.length ≤ 4097) := by have h1 := congrArg List.length HSS.out; have h2 := HQV.out; have h3 := HQS.out; rw [List.length_reverse, List.length_drop] at h1; unfold Hid; omega
          have JRa : Hid ((wr.alloc (.cells #[.int .i64 (y9 : Int)] 3)).ownsRow V3.heap.size 3 1 (.slice asx s.length cs) s.length (iv s)) := own_keep KR.out (bAlloc (Below.refl _ _) _)
          have JLa : Hid (Below V3.heap.size V3 (wr.alloc (.cells #[.int .i64 (y9 : Int)] 3))) := bAlloc KB2.out _
          have H7 : Hid (∀ k, (Value.slice asx s.length cs).ownBlock = some k → V3.heap.size ≤ k) := fun k hk => (KR.out.lt k hk).1
          have SRa : Hid (Srv (wr.alloc (.cells #[.int .i64 (y9 : Int)] 3)) (.slice (some ⟨wr.heap.size, 0, none⟩) 1 1) 1 [.int .i64 (y9 : Int)]) := .inr ⟨_, _, rfl, fun j t hj => lit_cells wr #[.int .i64 (y9 : Int)] 3 j t hj⟩
          have Q1 : Hid (s.length + 1 ≤ maxLen) := by have := HLS.out; unfold Hid maxLen; omega
          have Q2 : Hid ((s.length + 1) * 8 ≤ 140737488355328) := by have := HLS.out; unfold Hid; omega
          have Q3 : Hid (V3.heap.size ≤ (wr.alloc (.cells #[.int .i64 (y9 : Int)] 3)).heap.size) := JLa.out.size
          have hwj : IntKind.i64.wrap ((j : Int) - 1) = (j : Int) - 1 := by rw [IntKind.wrap_i64]; have := HM.out; have := HQS.out; omega
          clear hz hy9
          go_wp2_with (first | (at_builtin; refine append_srv rfl (.tmp 82) (.tmp 87) 29 rfl V3.heap.size 3 i3 (.int .i64 0) 1 8 Try.underlying29 hi3 hz3 hs3 hb3 rfl (by decide) (.slice asx s.length cs) s.length (iv s) rfl JRa.out (.slice (some ⟨wr.heap.size, 0, none⟩) 1 1) 1 [.int .i64 (y9 : Int)] rfl SRa.out rfl (iv_one [y9]) Q1.out Q2.out Q3.out ?_; intro v' w5 ho hg hf5; have L5b := mkH (JLa.out.grown hg JLa.out.size H7.out); have R5 := mkH ho; clear ho hg hf5) | fail)
          obtain ⟨a7, c7, rfl⟩ := own_shape R5.out
          go_roundg j
          case measure => omega
          case rel => exact ⟨_, s ++ [y9], a7, c7, rfl, rfl, by rw [List.length_append]; rfl, by have := HM.out; unfold Hid; omega, HS2.out, by rw [iv_append, List.length_append]; exact R5.out, L5b.out⟩
    · rw [List.concat_eq_append] at hp1
      subst hp1
      rcases List.eq_nil_or_concat q with rfl | ⟨q1, y, hq1⟩
      · have HFI : Hid (strip A B = (p1 ++ [x], [])) := by unfold Hid; rw [HST.out, strip_nil2]
        obtain ⟨u, hu⟩ : ∃ u, (p1 ++ [x]).length = u := ⟨_, rfl⟩
        have hu0 : (0 : Int) < (u : Int) := by rw [← hu, List.length_append, List.length_singleton]; omega
        have hu9 : 0 < u := by omega
        rw [hu] at KP KPd
        have HU := mkH hu
        go_upto_region 6 with fail
        rw [hu]
        clear hu
        refine wp_region_held (S := fun w' => w' = wr.drew) (by kernel_rfl) ?_
        change wpAnyH _ _ _ _ _ _ _ _ (World.drew _)
        generalize wr.drew = V3 at *
        refine tk 0 (.slice a9 u c9) rfl ?_
        try simp only [Act.put, jj1, jj2, jj3, jj4, jj5, jj6]
        refine tk 1 (.int .i64 ((u : Nat) : Int)) rfl ?_
        refine tk 2 (.bool true) rfl ?_
        refine tk 3 (.bool true) rfl ?_
        refine tk 4 (.slice a10 0 c10) rfl ?_
        try simp only [Act.put, jj1, jj2, jj3, jj4, jj5, jj6]
        refine tk 5 (.int .i64 0) rfl ?_
        refine tk 6 (.bool false) rfl ?_
        refine tk 7 (.bool false) rfl ?_
        refine tk 8 (.bool false) rfl ?_
        try simp only [Act.put, jj1, jj2, jj3, jj4, jj5, jj6]
        refine ta 9 undef rfl (Or.inr ⟨by rfl, rfl⟩) rfl ?_
        refine ta 10 undef rfl (Or.inr ⟨by rfl, rfl⟩) rfl ?_
        refine ta 11 undef rfl (Or.inr ⟨by rfl, rfl⟩) rfl ?_
        refine ta 12 undef rfl (Or.inr ⟨by rfl, rfl⟩) rfl ?_
        try simp only [Act.put, jj1, jj2, jj3, jj4, jj5, jj6]
        refine ta 13 undef rfl (Or.inr ⟨by rfl, rfl⟩) rfl ?_
        refine ta 14 undef rfl (Or.inr ⟨by rfl, rfl⟩) rfl ?_
        refine ta 15 undef rfl (Or.inr ⟨by rfl, rfl⟩) rfl ?_
        refine ta 16 undef rfl (Or.inr ⟨by rfl, rfl⟩) rfl ?_
        try simp only [Act.put, jj1, jj2, jj3, jj4, jj5, jj6]
        refine ta 17 undef rfl (Or.inr ⟨by rfl, rfl⟩) rfl ?_
        refine ta 18 undef rfl (Or.inr ⟨by rfl, rfl⟩) rfl ?_
        refine ta 19 undef rfl (Or.inr ⟨by rfl, rfl⟩) rfl ?_
        refine ta 20 undef rfl (Or.inr ⟨by rfl, rfl⟩) rfl ?_
        try simp only [Act.put, jj1, jj2, jj3, jj4, jj5, jj6]
        refine ta 21 undef rfl (Or.inr ⟨by rfl, rfl⟩) rfl ?_
        refine tk 22 (.bool false) rfl ?_
        try simp only [Act.put, jj1, jj2, jj3, jj4, jj5, jj6]
        refine wpAnyH_done (by kernel_rfl) ?_ _
        clear HST HGK KP KQ HPL hu0 hu9
        have HQV : Hid (([] : List Nat).length = 0) := rfl
        have HQS : Hid (0 ≤ 4097) := by unfold Hid; omega
        obtain ⟨QQ, hQQ⟩ : ∃ q9, ([] : List Nat) = q9 := ⟨_, rfl⟩
        replace HFI : Hid (strip A B = ((p1 ++ [x]), QQ)) := by unfold Hid; rw [← hQQ]; exact HFI.out
        rw [hQQ] at KQd HQV
        clear hQQ
        go_wp2_with fail
        go_loopg [11, 12] 0 (fun m x11 x12 wx => ∃ (z : Int) (s : List Nat) (asx : Option Addr) (cs : Nat), x12 = .int .i64 z ∧ Hid (z = (m : Int) - 1) ∧ x11 = .slice asx s.length cs ∧ Hid (m ≤ 0) ∧ Hid (s = (QQ.drop m).reverse) ∧ Hid (wx.ownsRow V3.heap.size 3 1 (.slice asx s.length cs) s.length (iv s)) ∧ Hid (Below V3.heap.size V3 wx))
        case atStart => exact ⟨_, [], none, 0, rfl, by unfold Hid; rfl, rfl, Nat.le_refl _, by unfold Hid; rw [List.drop_eq_nil_of_le (by rw [HQV.out]; exact Nat.le_refl _)]; rfl, ⟨rfl, .inl ⟨rfl, rfl⟩⟩, Below.refl _ _⟩
        case round =>
          obtain ⟨z, s, asx, cs, rfl, HZ, rfl, HM, HSS, KR, KB2⟩ := hrel
          by_cases hz : gk = 0
          · subst hz
            have hzn : ¬ (0 : Int) ≤ z := by have := HZ.out; omega
            have HSR : Hid (s = QQ.reverse) := HSS.out
            go_wp2
            exact bodyPost_ret (v := .tuple #[.slice a9 u c9, .slice asx s.length cs, .int .i64 0]) (by simp [results, Try.results15]) rfl (PathQ.of HFI.out (HU.out) HSR.out (own_keep KPd.out KB2.out) (own_lower KR.out KBd.out.size) (bT KBd.out KB2.out))
          · exact absurd (Nat.le_zero.1 HM.out) hz
      · rw [List.concat_eq_append] at hq1
        subst hq1
        obtain ⟨g1, rfl, hc1, -, -⟩ := own_pos KP.out (by simp)
        obtain ⟨g2, rfl, hc2, -, -⟩ := own_pos KQ.out (by simp)
        have e1 : wr.drew.cell? ⟨g1, p1.length, none⟩ = some (.int .i64 (x : Int)) := by
          rw [KPd.out.cellAt p1.length (by simp)]
          exact iv_at (by simp)
        have e2 : wr.drew.cell? ⟨g2, q1.length, none⟩ = some (.int .i64 (y : Int)) := by
          rw [KQd.out.cellAt q1.length (by simp)]
          exact iv_at (by simp)
        have f1 : Hid (wr.drew.ownsRow w.heap.size 3 1 (.slice (some ⟨g1, 0, none⟩) p1.length c9) p1.length (iv p1)) := own_prefix (by rw [← iv_append]; exact KPd.out) (by rw [iv_length, Nat.mul_one]) (by simp)
        have f2 : Hid (wr.drew.ownsRow w.heap.size 3 1 (.slice (some ⟨g2, 0, none⟩) q1.length c10) q1.length (iv q1)) := own_prefix (by rw [← iv_append]; exact KQd.out) (by rw [iv_length, Nat.mul_one]) (by simp)
        have s1 := fun W => sl29 (g := g1) (n := (p1 ++ [x]).length) (c := c9) (m := p1.length) (by simp) hc1 W
        have s2 := fun W => sl29 (g := g2) (n := (q1 ++ [y]).length) (c := c10) (m := q1.length) (by simp) hc2 W
        obtain ⟨u, hu⟩ : ∃ u, (p1 ++ [x]).length = u := ⟨_, rfl⟩
        obtain ⟨v, hv⟩ : ∃ u, (q1 ++ [y]).length = u := ⟨_, rfl⟩
        obtain ⟨lp, hlp⟩ : ∃ u, p1.length = u := ⟨_, rfl⟩
        obtain ⟨lq, hlq⟩ : ∃ u, q1.length = u := ⟨_, rfl⟩
        have hul : u = lp + 1 := by rw [← hu, List.length_append, hlp]; rfl
        have hvl : v = lq + 1 := by rw [← hv, List.length_append, hlq]; rfl
        have hub : u ≤ 4097 := by have := HLA.out; have := HPL.out; omega
        have hvb : v ≤ 4097 := by have := HLB.out; have := HQL.out; omega
        have hu0 : (0 : Int) < (u : Int) := by omega
        have hv0 : (0 : Int) < (v : Int) := by omega
        have hu9 : 0 < u := by omega
        have hv9 : 0 < v := by omega
        have hw1 : IntKind.i64.wrap ((u : Int) - 1) = (lp : Int) := by rw [IntKind.wrap_i64]; omega
        have hw2 : IntKind.i64.wrap ((v : Int) - 1) = (lq : Int) := by rw [IntKind.wrap_i64]; omega
        have hlu : (lp : Int) < (u : Int) := by omega
        have hlv : (lq : Int) < (v : Int) := by omega
        have hl0 : (0 : Int) ≤ (lp : Int) := by omega
        have hm0 : (0 : Int) ≤ (lq : Int) := by omega
        rw [hu] at KP KPd HPL s1
        rw [hv] at KQ KQd HQL s2
        rw [hlp] at e1 f1 s1
        rw [hlq] at e2 f2 s2
        have HU := mkH hu
        have HV := mkH hv
        have HLP := mkH hlp
        have HLQ := mkH hlq
        have HUL := mkH hul
        have HVL := mkH hvl
        go_upto_region 6 with fail
        rw [hu, hv]
        clear hu hv hlp hlq hul hvl hub hvb hc1 hc2 KP KQ
        by_cases hxy : x = y
        · subst hxy
          have HST2 : Hid (strip A B = strip p1 q1) := by unfold Hid; rw [HST.out, strip_snoc]
          refine wp_region_held (S := fun w' => w' = wr.drew) (by kernel_rfl) ?_
          change wpAnyH _ _ _ _ _ _ _ _ (World.drew _)
          generalize wr.drew = V3 at *
          refine tk 0 (.slice (some ⟨g1, 0, none⟩) u c9) rfl ?_
          refine tk 1 (.int .i64 ((u : Nat) : Int)) rfl ?_
          refine tk 2 (.bool true) rfl ?_
          try simp only [Act.put, jj1, jj2, jj3, jj4, jj5, jj6]
          refine tk 3 (.bool true) rfl ?_
          refine tk 4 (.slice (some ⟨g2, 0, none⟩) v c10) rfl ?_
          refine tk 5 (.int .i64 ((v : Nat) : Int)) rfl ?_
          refine tk 6 (.bool true) rfl ?_
          try simp only [Act.put, jj1, jj2, jj3, jj4, jj5, jj6]
          refine tk 7 (.bool true) rfl ?_
          refine tk 8 (.bool true) rfl ?_
          refine tk 9 (.slice (some ⟨g1, 0, none⟩) u c9) rfl ?_
          refine tk 10 (.slice (some ⟨g1, 0, none⟩) u c9) rfl ?_
          try simp only [Act.put, jj1, jj2, jj3, jj4, jj5, jj6]
          refine tk 11 (.int .i64 ((u : Nat) : Int)) rfl ?_
          refine tk 12 (.int .i64 (lp : Int)) rfl ?_
          refine tk 13 (.pointer (some ⟨g1, lp, none⟩)) rfl ?_
          refine ta 14 (.int .i64 (x : Int)) rfl (Or.inl ⟨by rfl, fun w9 h9 => by subst h9; go_simp⟩) rfl ?_
          try simp only [Act.put, jj1, jj2, jj3, jj4, jj5, jj6]
          refine tk 15 (.slice (some ⟨g2, 0, none⟩) v c10) rfl ?_
          refine tk 16 (.slice (some ⟨g2, 0, none⟩) v c10) rfl ?_
          refine tk 17 (.int .i64 ((v : Nat) : Int)) rfl ?_
          refine tk 18 (.int .i64 (lq : Int)) rfl ?_
          try simp only [Act.put, jj1, jj2, jj3, jj4, jj5, jj6]
          refine tk 19 (.pointer (some ⟨g2, lq, none⟩)) rfl ?_
          refine ta 20 (.int .i64 (x : Int)) rfl (Or.inl ⟨by rfl, fun w9 h9 => by subst h9; go_simp⟩) rfl ?_
          refine tk 21 (.bool true) rfl ?_
          refine tk 22 (.bool true) rfl ?_
          try simp only [Act.put, jj1, jj2, jj3, jj4, jj5, jj6]
          refine wpAnyH_done (by kernel_rfl) ?_ _
          clear e1 e2
          go_upto_region 7 with fail
          have KPe : Hid (V3.drew.ownsRow w.heap.size 3 1 (.slice (some ⟨g1, 0, none⟩) lp c9) lp (iv p1)) := own_keep f1.out (Below.refl _ _).drew
          have KQe : Hid (V3.drew.ownsRow w.heap.size 3 1 (.slice (some ⟨g2, 0, none⟩) lq c10) lq (iv q1)) := own_keep f2.out (Below.refl _ _).drew
          have KBe : Hid (Below w.heap.size w V3.drew) := KBd.out.drew
          refine wp_region_held (S := fun w' => w' = V3.drew) (by kernel_rfl) ?_
          change wpAnyH _ _ _ _ _ _ _ _ (World.drew _)
          refine tk 0 (.slice (some ⟨g1, 0, none⟩) u c9) rfl ?_
          try simp only [Act.put, jj1, jj2, jj3, jj4, jj5, jj6]
          refine tk 1 (.slice (some ⟨g1, 0, none⟩) u c9) rfl ?_
          refine tk 2 (.int .i64 ((u : Nat) : Int)) rfl ?_
          refine tk 3 (.int .i64 (lp : Int)) rfl ?_
          refine tk 4 (.slice (some ⟨g1, 0, none⟩) lp c9) rfl ?_
          try simp only [Act.put, jj1, jj2, jj3, jj4, jj5, jj6]
          refine tk 5 (.slice (some ⟨g2, 0, none⟩) v c10) rfl ?_
          refine tk 6 (.slice (some ⟨g2, 0, none⟩) v c10) rfl ?_
          refine tk 7 (.int .i64 ((v : Nat) : Int)) rfl ?_
          refine tk 8 (.int .i64 (lq : Int)) rfl ?_
          try simp only [Act.put, jj1, jj2, jj3, jj4, jj5, jj6]
          refine tk 9 (.slice (some ⟨g2, 0, none⟩) lq c10) rfl ?_
          refine tk 10 (.slice (some ⟨g1, 0, none⟩) lp c9) rfl ?_
          refine tk 11 (.slice (some ⟨g2, 0, none⟩) lq c10) rfl ?_
          try simp only [Act.put, jj1, jj2, jj3, jj4, jj5, jj6]
          refine wpAnyH_done (by kernel_rfl) ?_ _
          go_wp2
          go_roundg lp
          case measure => have := HGK.out; have := HUL.out; have := HU.out; omega
          case rel => exact ⟨p1, q1, _, _, c9, c10, by rw [HLP.out], by rw [HLQ.out], HLP.out, HST2.out, by have := HQL.out; have := HLQ.out; have := HVL.out; unfold Hid; omega, by have := HPL.out; have := HLP.out; have := HUL.out; unfold Hid; omega, by rw [HLP.out]; exact KPe.out, by rw [HLQ.out]; exact KQe.out, KBe.out⟩
        · have hxy1 : ((x : Int) == (y : Int)) = false := by rw [beq_eq_false_iff_ne]; omega
          have HFI : Hid (strip A B = (p1 ++ [x], q1 ++ [y])) := by unfold Hid; rw [HST.out, strip_ne _ _ hxy]
          clear hxy
          refine wp_region_held (S := fun w' => w' = wr.drew) (by kernel_rfl) ?_
          change wpAnyH _ _ _ _ _ _ _ _ (World.drew _)
          generalize wr.drew = V3 at *
          refine tk 0 (.slice (some ⟨g1, 0, none⟩) u c9) rfl ?_
          refine tk 1 (.int .i64 ((u : Nat) : Int)) rfl ?_
          try simp only [Act.put, jj1, jj2, jj3, jj4, jj5, jj6]
          refine tk 2 (.bool true) rfl ?_
          refine tk 3 (.bool true) rfl ?_
          refine tk 4 (.slice (some ⟨g2, 0, none⟩) v c10) rfl ?_
          refine tk 5 (.int .i64 ((v : Nat) : Int)) rfl ?_
          try simp only [Act.put, jj1, jj2, jj3, jj4, jj5, jj6]
          refine tk 6 (.bool true) rfl ?_
          refine tk 7 (.bool true) rfl ?_
          refine tk 8 (.bool true) rfl ?_
          refine tk 9 (.slice (some ⟨g1, 0, none⟩) u c9) rfl ?_
          try simp only [Act.put, jj1, jj2, jj3, jj4, jj5, jj6]
          refine tk 10 (.slice (some ⟨g1, 0, none⟩) u c9) rfl ?_
          refine tk 11 (.int .i64 ((u : Nat) : Int)) rfl ?_
          refine tk 12 (.int .i64 (lp : Int)) rfl ?_
          refine tk 13 (.pointer (some ⟨g1, lp, none⟩)) rfl ?_
          try simp only [Act.put, jj1, jj2, jj3, jj4, jj5, jj6]
          refine ta 14 (.int .i64 (x : Int)) rfl (Or.inl ⟨by rfl, fun w9 h9 => by subst h9; go_simp⟩) rfl ?_
          refine tk 15 (.slice (some ⟨g2, 0, none⟩) v c10) rfl ?_
          refine tk 16 (.slice (some ⟨g2, 0, none⟩) v c10) rfl ?_
          refine tk 17 (.int .i64 ((v : Nat) : Int)) rfl ?_
          try simp only [Act.put, jj1, jj2, jj3, jj4, jj5, jj6]
          refine tk 18 (.int .i64 (lq : Int)) rfl ?_
          refine tk 19 (.pointer (some ⟨g2, lq, none⟩)) rfl ?_
          refine ta 20 (.int .i64 (y : Int)) rfl (Or.inl ⟨by rfl, fun w9 h9 => by subst h9; go_simp⟩) rfl ?_
          refine tk 21 (.bool false) rfl ?_
          try simp only [Act.put, jj1, jj2, jj3, jj4, jj5, jj6]
          refine tk 22 (.bool false) rfl ?_
          try simp only [Act.put, jj1, jj2, jj3, jj4, jj5, jj6]
          refine wpAnyH_done (by kernel_rfl) ?_ _
          clear HST HGK HPL e1 e2 f1 f2 s1 s2 hxy1 hu0 hv0 hu9 hv9 hlu hlv hl0 hm0 hw1
          have HQV : Hid ((q1 ++ [y]).length = v) := HV.out
          have HQS : Hid (v ≤ 4097) := by have := HQL.out; have := HLB.out; unfold Hid; omega
          obtain ⟨QQ, hQQ⟩ : ∃ q9, (q1 ++ [y]) = q9 := ⟨_, rfl⟩
          replace HFI : Hid (strip A B = ((p1 ++ [x]), QQ)) := by unfold Hid; rw [← hQQ]; exact HFI.out
          rw [hQQ] at KQd HQV
          clear hQQ
          go_wp2_with fail
          clear hw2
          go_loopg [11, 12] v (fun m x11 x12 wx => ∃ (z : Int) (s : List Nat) (asx : Option Addr) (cs : Nat), x12 = .int .i64 z ∧ Hid (z = (m : Int) - 1) ∧ x11 = .slice asx s.length cs ∧ Hid (m ≤ v) ∧ Hid (s = (QQ.drop m).reverse) ∧ Hid (wx.ownsRow V3.heap.size 3 1 (.slice asx s.length cs) s.length (iv s)) ∧ Hid (Below V3.heap.size V3 wx))
          case atStart => exact ⟨_, [], none, 0, rfl, by have := HVL.out; unfold Hid; omega, rfl, Nat.le_refl _, by unfold Hid; rw [List.drop_eq_nil_of_le (by rw [HQV.out]; exact Nat.le_refl _)]; rfl, ⟨rfl, .inl ⟨rfl, rfl⟩⟩, Below.refl _ _⟩
          case round =>
            obtain ⟨z, s, asx, cs, rfl, HZ, rfl, HM, HSS, KR, KB2⟩ := hrel
            by_cases hz : gk = 0
            · subst hz
              have hzn : ¬ (0 : Int) ≤ z := by have := HZ.out; omega
              have HSR : Hid (s = QQ.reverse) := HSS.out
              go_wp2
              exact bodyPost_ret (v := .tuple #[.slice (some ⟨g1, 0, none⟩) u c9, .slice asx s.length cs, .int .i64 0]) (by simp [results, Try.results15]) rfl (PathQ.of HFI.out (HU.out) HSR.out (own_keep KPd.out KB2.out) (own_lower KR.out KBd.out.size) (bT KBd.out KB2.out))
            · obtain ⟨j, hj⟩ : ∃ j, gk = j + 1 := ⟨gk - 1, by omega⟩
              subst hj
              have hzj : z = (j : Int) := by have := HZ.out; omega
              subst hzj
              have hjv : (j : Int) < ((v : Nat) : Int) := by have := HM.out; omega
              have hj0 : (0 : Int) ≤ (j : Int) := by omega
              obtain ⟨y9, hy9⟩ : ∃ y, QQ[j]? = some y := ⟨_, List.getElem?_eq_getElem (by have := HQV.out; have := HM.out; omega)⟩
              obtain ⟨g9, hg9, -, -, hgl⟩ := own_pos KQd.out (by have := HM.out; omega)
              simp only [Option.some.injEq, Addr.mk.injEq] at hg9
              obtain ⟨hg9, -, -⟩ := hg9
              subst hg9
              have e9 : wr.cell? ⟨g2, j, none⟩ = some (.int .i64 (y9 : Int)) := by
                have h1 := own_keep KQd.out KB2.out
                rw [h1.cellAt j (by have := HQV.out; have := HM.out; omega)]
                exact iv_at hy9
              have HS2 : Hid (s ++ [y9] = (QQ.drop j).reverse) := by unfold Hid; obtain ⟨hjq, hye⟩ := List.getElem?_eq_some_iff.1 hy9; rw [HSS.out, List.drop_eq_getElem_cons (i := j) hjq, List.reverse_cons, hye]
              have HLS : Hid (s.length ≤ 4097) := by have h1 := congrArg List.length HSS.out; have h2 := HQV.out; have h3 := HQS.out; rw [List.length_reverse, List.length_drop] at h1; unfold Hid; omega
              have JRa : Hid ((wr.alloc (.cells #[.int .i64 (y9 : Int)] 3)).ownsRow V3.heap.size 3 1 (.slice asx s.length cs) s.length (iv s)) := own_keep KR.out (bAlloc (Below.refl _ _) _)
              have JLa : Hid (Below V3.heap.size V3 (wr.alloc (.cells #[.int .i64 (y9 : Int)] 3))) := bAlloc KB2.out _
              have H7 : Hid (∀ k, (Value.slice asx s.length cs).ownBlock = some k → V3.heap.size ≤ k) := fun k hk => (KR.out.lt k hk).1
              have SRa : Hid (Srv (wr.alloc (.cells #[.int .i64 (y9 : Int)] 3)) (.slice (some ⟨wr.heap.size, 0, none⟩) 1 1) 1 [.int .i64 (y9 : Int)]) := .inr ⟨_, _, rfl, fun j t hj => lit_cells wr #[.int .i64 (y9 : Int)] 3 j t hj⟩
              have Q1 : Hid (s.length + 1 ≤ maxLen) := by have := HLS.out; unfold Hid maxLen; omega
              have Q2 : Hid ((s.length + 1) * 8 ≤ 140737488355328) := by have := HLS.out; unfold Hid; omega
              have Q3 : Hid (V3.heap.size ≤ (wr.alloc (.cells #[.int .i64 (y9 : Int)] 3)).heap.size) := JLa.out.size
              have hwj : IntKind.i64.wrap ((j : Int) - 1) = (j : Int) - 1 := by rw [IntKind.wrap_i64]; have := HM.out; have := HQS.out; omega
              clear hz hy9
              go_wp2_with (first | (at_builtin; refine append_srv rfl (.tmp 82) (.tmp 87) 29 rfl V3.heap.size 3 i3 (.int .i64 0) 1 8 Try.underlying29 hi3 hz3 hs3 hb3 rfl (by decide) (.slice asx s.length cs) s.length (iv s) rfl JRa.out (.slice (some ⟨wr.heap.size, 0, none⟩) 1 1) 1 [.int .i64 (y9 : Int)] rfl SRa.out rfl (iv_one [y9]) Q1.out Q2.out Q3.out ?_; intro v' w5 ho hg hf5; have L5b := mkH (JLa.out.grown hg JLa.out.size H7.out); have R5 := mkH ho; clear ho hg hf5) | fail)
              obtain ⟨a7, c7, rfl⟩ := own_shape R5.out
              go_roundg j
              case measure => omega
              case rel => exact ⟨_, s ++ [y9], a7, c7, rfl, rfl, by rw [List.length_append]; rfl, by have := HM.out; unfold Hid; omega, HS2.out, by rw [iv_append, List.length_append]; exact R5.out, L5b.out⟩
set_option maxHeartbeats 8000000 in
theorem rpath_no1 (n c : Nat) (now f t : Int) (ao : Option Addr) (w : World) (CC : Hid (∀ W, Below w.heap.size w W → Calls Try.prog 14 #[.agg #[.slice ao n c, .int .i64 now]] W fun e w' => e = .returned (.int .i64 180) ∧ Below W.heap.size W w')) :
    Calls Try.prog 15 #[.agg #[.slice ao n c, .int .i64 now], .int .i64 f, .int .i64 t] w fun e w' => PathQ [] [] 180 w e w' := by
  generalize hW1 : w.alloc (.cells #[.slice ao n c, .int .i64 now] 24) = W1
  have L1 : Hid (Below w.heap.size w W1) := by subst hW1; exact bAlloc (Below.refl _ _) _
  have K1 : Hid (Blk W1 w.heap.size 24 #[.slice ao n c, .int .i64 now]) := by subst hW1; exact Blk.new w 24 _
  have a1 : W1.cell? ⟨w.heap.size, 0, none⟩ = some (.slice ao n c) := K1.out.cell rfl
  have b1 : W1.cell? ⟨w.heap.size, 1, none⟩ = some (.int .i64 now) := K1.out.cell rfl
  go_enter Try.func15, Try.ntmps15
  go_wp2_with (first | (go_at_call 14; refine (CC.out W1 L1.out).mono ?_; rintro e w2 ⟨rfl, hw⟩; have L2 := mkH (bT L1.out hw); clear hw) | fail)
  exact bodyPost_ret (v := .tuple #[.slice none 0 0, .slice none 0 0, .int .i64 180]) (by simp [results, Try.results15]) rfl (PathQ.none 180 L2.out)
set_option maxHeartbeats 8000000 in
theorem rpath_no2 (n c : Nat) (now f t : Int) (ao : Option Addr) (w : World) (HI : Hid (¬ InR n f t)) (CC : Hid (∀ W, Below w.heap.size w W → Calls Try.prog 14 #[.agg #[.slice ao n c, .int .i64 now]] W fun e w' => e = .returned (.int .i64 0) ∧ Below W.heap.size W w')) :
    Calls Try.prog 15 #[.agg #[.slice ao n c, .int .i64 now], .int .i64 f, .int .i64 t] w fun e w' => PathQ [] [] 2 w e w' := by
  generalize hW1 : w.alloc (.cells #[.slice ao n c, .int .i64 now] 24) = W1
  have L1 : Hid (Below w.heap.size w W1) := by subst hW1; exact bAlloc (Below.refl _ _) _
  have K1 : Hid (Blk W1 w.heap.size 24 #[.slice ao n c, .int .i64 now]) := by subst hW1; exact Blk.new w 24 _
  have a1 : W1.cell? ⟨w.heap.size, 0, none⟩ = some (.slice ao n c) := K1.out.cell rfl
  have b1 : W1.cell? ⟨w.heap.size, 1, none⟩ = some (.int .i64 now) := K1.out.cell rfl
  go_enter Try.func15, Try.ntmps15
  go_upto_region 3 with (first | (go_at_call 14; refine (CC.out W1 L1.out).mono ?_; rintro e w2 ⟨rfl, hw⟩; have L2 := mkH (bT L1.out hw); have a2 := cell_keep a1 hw; clear hw) | fail)
  clear hW1 a1 b1
  by_cases h1 : f < 0
  · go_wp2
    exact bodyPost_ret (v := .tuple #[.slice none 0 0, .slice none 0 0, .int .i64 2]) (by simp [results, Try.results15]) rfl (PathQ.none 2 L2.out)
  · by_cases h2 : (n : Int) ≤ f
    · go_wp2
      exact bodyPost_ret (v := .tuple #[.slice none 0 0, .slice none 0 0, .int .i64 2]) (by simp [results, Try.results15]) rfl (PathQ.none 2 L2.out)
    · by_cases h3 : t < 0
      · go_wp2
        exact bodyPost_ret (v := .tuple #[.slice none 0 0, .slice none 0 0, .int .i64 2]) (by simp [results, Try.results15]) rfl (PathQ.none 2 L2.out)
      · by_cases h4 : (n : Int) ≤ t
        · go_wp2
          exact bodyPost_ret (v := .tuple #[.slice none 0 0, .slice none 0 0, .int .i64 2]) (by simp [results, Try.results15]) rfl (PathQ.none 2 L2.out)
        · exact absurd (show InR n f t from ⟨⟨by omega, by omega⟩, ⟨by omega, by omega⟩⟩) HI.out
theorem rpath_any (ao : Option Addr) (n c : Nat) (now f t : Int) (G : List Nr) (w : World) (HG : Hid (Grz w ao G)) (hn : G.length = n) : Calls Try.prog 15 #[.agg #[.slice ao n c, .int .i64 now], .int .i64 f, .int .i64 t] w fun e w' => PathQ (ptU (G.map Nr.d) now f t) (ptD (G.map Nr.d) now f t) (ptE (G.map Nr.d) now f t) w e w' := by
  unfold ptU ptD ptE
  have hlen : (G.map Nr.d).length = n := by rw [List.length_map, hn]
  rw [hlen]
  have C := fun W (hW : Below w.heap.size w W) => rcheck_any ao n c now G W (HG.out.keep hW) hn
  by_cases hr : Right (G.map Nr.d) now
  · rw [ti_t hr] at C ⊢
    by_cases hi : InR n f t
    · rw [ti_t hi, tb_t ⟨hr, hi⟩, if_pos rfl, if_pos rfl]
      obtain ⟨f', rfl⟩ : ∃ k : Nat, f = (k : Int) := ⟨f.toNat, by have := hi.1.1; omega⟩
      obtain ⟨t', rfl⟩ : ∃ k : Nat, t = (k : Int) := ⟨t.toNat, by have := hi.2.1; omega⟩
      rw [Int.toNat_natCast, Int.toNat_natCast]
      have hsz := hr.sz.1
      rw [hlen] at hsz
      have h1 := hi.1.2
      have h2 := hi.2.2
      have hp := hr.hng.low
      rw [hlen] at hp
      have l1 := (way_len hp (i := f') (by omega)).2
      have l2 := (way_len hp (i := t') (by omega)).2
      exact rpath_yes n c f' t' now _ _ ao w (by unfold Hid; omega) (by unfold Hid; omega) (by omega) (by omega) C (fun W hW => rway_any ao n c f' now G W (HG.out.keep hW) hn hsz (by omega) hr.hng) (fun W hW => rway_any ao n c t' now G W (HG.out.keep hW) hn hsz (by omega) hr.hng)
    · rw [ti_f hi, tb_f (fun h => hi h.2), if_neg (by simp), if_neg (by simp)]
      exact rpath_no2 n c now f t ao w hi C
  · rw [ti_f hr] at C ⊢
    rw [tb_f (fun h => hr h.1), if_neg (by simp), if_neg (by simp)]
    exact rpath_no1 n c now f t ao w C
end Go.Proofs.Ytaahklapoppgaaa

