/- lent: edits in memory of their own, with marked room behind each text. -/
import Derived.Test.YtaahklapoppgaaaQn00
import Derived.Test.YtaahklapoppgaaaQm08
import Derived.Test.YtaahklapoppgaaaQm21
import Derived.Test.YtaahklapoppgaaaQk00
import Derived.Test.YtaahklapoppgaaaQm31
import Derived.Test.YtaahklapoppgaaaQm37
import Derived.Test.YtaahklapoppgaaaQk01
import Derived.Test.YtaahklapoppgaaaQn02
import Derived.Test.YtaahklapoppgaaaQn03
namespace Go.Proofs.Ytaahklapoppgaaa
open Go.RowKit

set_option maxRecDepth 8000
theorem pre1 {W : World} {base n c : Nat} {p : Option Addr} {l : List UInt8} {x : UInt8} (h : W.ownsRow base 5 1 (.slice p (n + 1) c) (n + 1) (bv (l ++ [x]))) : W.ownsRow base 5 1 (.slice p n c) n (bv l) := by
  obtain ⟨g, cap, e, h1, _⟩ := own_some h (by omega)
  simp at e
  obtain ⟨rfl, rfl⟩ := e
  have h1 := h.1
  rw [bv_length, List.length_append] at h1
  rw [bv_append] at h
  exact own_prefix h (by rw [bv_length]; simp at h1; omega) (by omega)
set_option maxHeartbeats 8000000 in
set_option linter.unusedSimpArgs false in
theorem lentE_any (eo : Option Addr) (en ec : Nat) (E : List Er) (w : World) (HE : Hid (Edz w eo E)) (hn : E.length = en) (heb : (en + 1) * 56 ≤ 140737488355328) :
    Calls Try.prog 37 #[.slice eo en ec] w fun e w' => LstP (E.map Er.d) w e w' := by
  obtain ⟨nn, hnn⟩ : ∃ nn, nn = en + 1 := ⟨_, rfl⟩
  obtain ⟨CS, hCS, hmk⟩ := run_roomE nn (by rw [hnn]; exact heb)
  have HN := mkH hn
  have hw0 : IntKind.i64.wrap ((en : Int) + 1) = (nn : Int) := by rw [IntKind.wrap_i64]; omega
  have hP1 := World.ownsRow_made (base := w.heap.size) (e := 77) (size := 3) w CS nn (Nat.le_refl _) (by unfold maxLen; omega) hCS
  have hr1 := (Rws.nil w).new (bAlloc (Below.refl _ w) (.cells CS 77)) hP1
  have HM : Hid (Lst w (w.alloc (.cells CS 77)) (.slice (some ⟨w.heap.size, 0, none⟩) 0 nn) []) := ⟨hr1, fun r hr => by simp at hr⟩
  have HNN := mkH hnn
  clear hn hP1 hr1 hnn hCS
  go_enter Try.func37, Try.ntmps37
  go_wp2_with fail
  clear hmk
  go_loopg [3, 4, 5, 6] en (fun m x3 x4 x5 x6 wx => ∃ (k : Nat) (F : List Er), x4 = .int .i64 (k : Int) ∧ k + m = en ∧ Hid (F.map Er.d = (E.map Er.d).take k) ∧ Hid (F.length = k) ∧ Hid (Lst w wx x3 F))
  case atStart => exact ⟨0, [], rfl, by omega, by unfold Hid; simp, rfl, HM.out⟩
  case round =>
    obtain ⟨k, F, rfl, him, HF, HL, KL⟩ := hrel
    obtain ⟨go, hgo⟩ : ∃ g, g = gk - 1 := ⟨_, rfl⟩
    by_cases hi : k < en
    · have hj0 : (0 : Int) ≤ (k : Int) := by omega
      have hj1 : (k : Int) < (en : Int) := by omega
      obtain ⟨r, hr⟩ : ∃ r, E[k]? = some r := ⟨_, List.getElem?_eq_getElem (by have := HN.out; omega)⟩
      have hit := map_take hr
      obtain ⟨g, o, rfl, h3⟩ := HE.out.row.ed3 hr
      have hEt0 := HE.out.txs k r hr
      have HG : Hid (g < w.heap.size) := h3.lt
      have h4 := h3.keep KL.out.bel
      have hEt1 := hEt0.keep KL.out.bel
      obtain ⟨ra, rp1, ro, rc1, rO, rp2, rn, rc2, rN⟩ := r
      have T1 : Hid (Tx wr rp1 ro rc1 rO) := hEt1.t1
      have T2 : Hid (Tx wr rp2 rn rc2 rN) := hEt1.t2
      have BO : Hid (ro ≤ 140737488355328 ∧ rn ≤ 140737488355328) := ⟨hEt0.b1, hEt0.b2⟩
      have KE : Hid (Ed3 wr g (o + k * 3) ra rp1 ro rc1 rp2 rn rc2) := h4
      have HIT : Hid ((E.map Er.d).take (k + 1) = (E.map Er.d).take k ++ [⟨ra, rO, rN⟩]) := hit
      have hw1 : IntKind.i64.wrap ((k : Int) + 1) = ((k + 1 : Nat) : Int) := by rw [IntKind.wrap_i64]; omega
      have Ln1 : Hid (rO.length = ro) := T1.out.len
      have Ln2 : Hid (rN.length = rn) := T2.out.len
      clear hr h3 h4 hEt0 hEt1 hit
      have t1 : (wr.alloc (.cells #[] 5)).cell? ⟨g, o + k * 3 + 1, none⟩ = some (.slice rp1 ro rc1) := cell_keep KE.out.e1 (bAlloc (Below.refl _ _) _)
      go_wp2_with (at_builtin; refine append_big rfl (.tmp 17) (.tmp 22) rfl wr.heap.size (.slice (some ⟨wr.heap.size, 0, none⟩) 0 0) 0 [] rfl (World.ownsRow_made wr #[] 0 (Nat.le_refl _) (Nat.zero_le _) rfl) (.slice rp1 ro rc1) ro (bv rO) rfl ((T1.out.keep (bAlloc (Below.refl _ _) _)).srv) (by rw [bv_length]; exact Ln1.out) (bv_one _) (by have := BO.out; omega) (by have := BO.out; omega) (by simp) ?_)
      intro v1 w1 hown hgrow _
      have OA : Hid (w1.ownsRow wr.heap.size 5 1 v1 ro (bv rO)) := by unfold Hid; simpa using hown
      have BA : Hid (Below wr.heap.size wr w1) := ((Below.refl _ wr).alloc (Nat.le_refl _) _).grown hgrow (by simp) (by intro k hk; simp [Value.ownBlock] at hk; omega)
      clear hown hgrow t1
      have O5 : Hid ((w1.alloc (.cells (bv [165]).toArray 5)).ownsRow wr.heap.size 5 1 v1 ro (bv rO)) := own_keep OA.out (bAlloc (Below.refl _ _) _)
      have C5 : Hid (Srv (w1.alloc (.cells (bv [165]).toArray 5)) (.slice (some ⟨w1.heap.size, 0, none⟩) 1 1) 1 (bv [165])) := (.inr ⟨_, 1, rfl, fun j u hj => lit_cells w1 _ 5 j u hj⟩)
      have Z5 : Hid (wr.heap.size ≤ (w1.alloc (.cells (bv [165]).toArray 5)).heap.size) := by have := BA.out.size; unfold Hid; simp; omega
      go_wp2_with (at_builtin; refine append_big rfl (.tmp 23) (.tmp 24) rfl wr.heap.size v1 ro (bv rO) rfl O5.out (.slice (some ⟨w1.heap.size, 0, none⟩) 1 1) 1 (bv [165]) rfl C5.out rfl (bv_one _) (by have := BO.out; omega) (by omega) Z5.out ?_)
      intro v2 w2 hown hgrow _
      have O2 : Hid (w2.ownsRow wr.heap.size 5 1 v2 (ro + 1) (bv (rO ++ [165]))) := by unfold Hid; rw [bv_append]; exact hown
      have B2 : Hid (Below wr.heap.size wr w2) := (bAlloc BA.out _).grown hgrow (by have := BA.out.size; simp; omega) (fun k hk => (OA.out.lt k hk).1)
      clear hown hgrow OA BA O5 C5 Z5
      have t2 : (w2.alloc (.cells #[] 5)).cell? ⟨g, o + k * 3 + 2, none⟩ = some (.slice rp2 rn rc2) := cell_keep (KE.out.keep B2.out).e2 (bAlloc (Below.refl _ _) _)
      go_wp2_with (at_builtin; refine append_big rfl (.tmp 26) (.tmp 31) rfl w2.heap.size (.slice (some ⟨w2.heap.size, 0, none⟩) 0 0) 0 [] rfl (World.ownsRow_made w2 #[] 0 (Nat.le_refl _) (Nat.zero_le _) rfl) (.slice rp2 rn rc2) rn (bv rN) rfl (((T2.out.keep B2.out).keep (bAlloc (Below.refl _ _) _)).srv) (by rw [bv_length]; exact Ln2.out) (bv_one _) (by have := BO.out; omega) (by have := BO.out; omega) (by simp) ?_)
      intro v3 w3 hown hgrow _
      have OA : Hid (w3.ownsRow w2.heap.size 5 1 v3 rn (bv rN)) := by unfold Hid; simpa using hown
      have BA : Hid (Below w2.heap.size w2 w3) := ((Below.refl _ w2).alloc (Nat.le_refl _) _).grown hgrow (by simp) (by intro k hk; simp [Value.ownBlock] at hk; omega)
      clear hown hgrow 
      have O5 : Hid ((w3.alloc (.cells (bv [166]).toArray 5)).ownsRow w2.heap.size 5 1 v3 rn (bv rN)) := own_keep OA.out (bAlloc (Below.refl _ _) _)
      have C5 : Hid (Srv (w3.alloc (.cells (bv [166]).toArray 5)) (.slice (some ⟨w3.heap.size, 0, none⟩) 1 1) 1 (bv [166])) := (.inr ⟨_, 1, rfl, fun j u hj => lit_cells w3 _ 5 j u hj⟩)
      have Z5 : Hid (w2.heap.size ≤ (w3.alloc (.cells (bv [166]).toArray 5)).heap.size) := by have := BA.out.size; unfold Hid; simp; omega
      go_wp2_with (at_builtin; refine append_big rfl (.tmp 32) (.tmp 33) rfl w2.heap.size v3 rn (bv rN) rfl O5.out (.slice (some ⟨w3.heap.size, 0, none⟩) 1 1) 1 (bv [166]) rfl C5.out rfl (bv_one _) (by have := BO.out; omega) (by omega) Z5.out ?_)
      intro v4 w4 hown hgrow _
      have O4 : Hid (w4.ownsRow w2.heap.size 5 1 v4 (rn + 1) (bv (rN ++ [166]))) := by unfold Hid; rw [bv_append]; exact hown
      have B4 : Hid (Below w2.heap.size w2 w4) := (bAlloc BA.out _).grown hgrow (by have := BA.out.size; simp; omega) (fun k hk => (OA.out.lt k hk).1)
      clear hown hgrow OA BA O5 C5 Z5
      obtain ⟨g1, q1, e1, hq1, -⟩ := own_some O2.out (by omega)
      obtain ⟨g2, q2, e2, hq2, -⟩ := own_some O4.out (by omega)
      subst e1 e2
      have s1 := so_h g1 (ro + 1) q1 ro (z := (ro : Int)) (by omega) rfl
      have s2 := so_h g2 (rn + 1) q2 rn (z := (rn : Int)) (by omega) rfl
      have OM : Hid (Oe w4.drew wr.heap.size ⟨ra, some ⟨g1, 0, none⟩, ro, q1, rO, some ⟨g2, 0, none⟩, rn, q2, rN⟩) := ⟨own_keep (pre1 O2.out) (bT B4.out (Below.refl _ _).drew), own_keep (own_lower (pre1 O4.out) B2.out.size) (Below.refl _ _).drew, far_new (pre1 O2.out) (pre1 O4.out), BO.out.1, BO.out.2⟩
      have BV : Hid (Below wr.heap.size wr w4.drew) := bT (bT B2.out B4.out) (Below.refl _ _).drew
      have KF : Hid (Ed3 w4.drew g (o + k * 3) ra rp1 ro rc1 rp2 rn rc2) := KE.out.keep BV.out
      clear O2 O4 B2 B4 T1 T2 hq1 hq2 Ln1 Ln2 KE t2
      go_upto_region 7 with fail
      refine wp_region_held (S := fun w' => Ed3 w' g (o + k * 3) ra rp1 ro rc1 rp2 rn rc2) (by kernel_rfl) ?_
      change wpAnyH _ _ _ _ _ _ _ _ (World.drew _)
      generalize w4.drew = V5 at *
      refine tk 0 u3 KF.out ?_
      refine tk 1 (.slice (some ⟨g, o, none⟩) en ec) KF.out ?_
      refine tk 2 (.int .i64 (k : Int)) KF.out ?_
      refine tk 3 (.pointer (some ⟨g, o + k * 3, none⟩)) KF.out ?_
      try simp only [Act.put, jj1, jj2, jj3, jj4, jj5, jj6]
      refine tk 4 (.pointer (some ⟨g, o + k * 3, none⟩)) KF.out ?_
      refine ta 5 (.int .i64 ra) rfl (Or.inl ⟨by rfl, fun w9 h9 => by have h5 := h9.e0; have h6 := h9.e1; have h7 := h9.e2; go_simp⟩) KF.out ?_
      refine tk 6 (.slice (some ⟨g1, 0, none⟩) (ro + 1) q1) KF.out ?_
      refine tk 7 (.slice (some ⟨g, o, none⟩) en ec) KF.out ?_
      try simp only [Act.put, jj1, jj2, jj3, jj4, jj5, jj6]
      refine tk 8 (.int .i64 (k : Int)) KF.out ?_
      refine tk 9 (.pointer (some ⟨g, o + k * 3, none⟩)) KF.out ?_
      refine tk 10 (.pointer (some ⟨g, o + k * 3 + 1, none⟩)) KF.out ?_
      refine ta 11 (.slice rp1 ro rc1) rfl (Or.inl ⟨by rfl, fun w9 h9 => by have h5 := h9.e0; have h6 := h9.e1; have h7 := h9.e2; go_simp⟩) KF.out ?_
      try simp only [Act.put, jj1, jj2, jj3, jj4, jj5, jj6]
      refine tk 12 (.int .i64 ((ro : Nat) : Int)) KF.out ?_
      refine tk 13 (.slice (some ⟨g1, 0, none⟩) ro q1) KF.out ?_
      refine tk 14 (.slice (some ⟨g2, 0, none⟩) (rn + 1) q2) KF.out ?_
      refine tk 15 (.slice (some ⟨g, o, none⟩) en ec) KF.out ?_
      try simp only [Act.put, jj1, jj2, jj3, jj4, jj5, jj6]
      refine tk 16 (.int .i64 (k : Int)) KF.out ?_
      refine tk 17 (.pointer (some ⟨g, o + k * 3, none⟩)) KF.out ?_
      refine tk 18 (.pointer (some ⟨g, o + k * 3 + 2, none⟩)) KF.out ?_
      refine ta 19 (.slice rp2 rn rc2) rfl (Or.inl ⟨by rfl, fun w9 h9 => by have h5 := h9.e0; have h6 := h9.e1; have h7 := h9.e2; go_simp⟩) KF.out ?_
      try simp only [Act.put, jj1, jj2, jj3, jj4, jj5, jj6]
      refine tk 20 (.int .i64 ((rn : Nat) : Int)) KF.out ?_
      refine tk 21 (.slice (some ⟨g2, 0, none⟩) rn q2) KF.out ?_
      refine tk 22 (.agg #[.int .i64 ra, .slice (some ⟨g1, 0, none⟩) ro q1, .slice (some ⟨g2, 0, none⟩) rn q2]) KF.out ?_
      try simp only [Act.put, jj1, jj2, jj3, jj4, jj5, jj6]
      refine wpAnyH_all (rs := [23]) (by kernel_rfl) (by simp) (AllH.cons rfl (fun K hK => ?_) AllH.nil)
      go_simp
      have B6 : Hid (Below wr.heap.size wr (V5.alloc (.cells #[.int .i64 ra, .slice (some ⟨g1, 0, none⟩) ro q1, .slice (some ⟨g2, 0, none⟩) rn q2] 77))) := bT BV.out (bAlloc (Below.refl _ _) _)
      have O6 : Hid (Oe (V5.alloc (.cells #[.int .i64 ra, .slice (some ⟨g1, 0, none⟩) ro q1, .slice (some ⟨g2, 0, none⟩) rn q2] 77)) wr.heap.size ⟨ra, some ⟨g1, 0, none⟩, ro, q1, rO, some ⟨g2, 0, none⟩, rn, q2, rN⟩) := OM.out.keep (bAlloc (Below.refl _ _) _)
      have C6 : Hid (∀ (j : Nat) (u : Value), (Er.cs ⟨ra, some ⟨g1, 0, none⟩, ro, q1, rO, some ⟨g2, 0, none⟩, rn, q2, rN⟩).toList[j]? = some u → (V5.alloc (.cells #[.int .i64 ra, .slice (some ⟨g1, 0, none⟩) ro q1, .slice (some ⟨g2, 0, none⟩) rn q2] 77)).cell? ((⟨V5.heap.size, 0, none⟩ : Addr).add j) = some u) := fun j u hj => lit_cells V5 _ 77 j u hj
      have KE6 : Hid (Ed3 (V5.alloc (.cells #[.int .i64 ra, .slice (some ⟨g1, 0, none⟩) ro q1, .slice (some ⟨g2, 0, none⟩) rn q2] 77)) g (o + k * 3) ra rp1 ro rc1 rp2 rn rc2) := KF.out.keep (bAlloc (Below.refl _ _) _)
      obtain ⟨g5, hg5⟩ : ∃ g5, g5 = V5.heap.size := ⟨_, rfl⟩
      rw [← hg5] at C6 ⊢
      clear hg5 OM BV KF
      generalize V5.alloc (.cells #[.int .i64 ra, .slice (some ⟨g1, 0, none⟩) ro q1, .slice (some ⟨g2, 0, none⟩) rn q2] 77) = w6 at *
      refine hK _ _ ⟨KE6.out, ?_⟩
      clear hK K
      try simp only [Act.put, jj1, jj2, jj3, jj4, jj5, jj6]
      refine wpAnyH_all (rs := [24]) (by kernel_rfl) (by simp) (AllH.cons rfl (fun K hK => ?_) AllH.nil)
      obtain ⟨v', w7, hr7, ho7, hg7, hf7⟩ := app_ed w.heap.size _ _ _ (own_keep KL.out.own B6.out) ⟨g5, 0, none⟩ ⟨ra, some ⟨g1, 0, none⟩, ro, q1, rO, some ⟨g2, 0, none⟩, rn, q2, rN⟩ C6.out (by have := HL.out; simp; omega) (Nat.le_trans KL.out.bel.size B6.out.size)
      have hL7 := KL.out.snoc B6.out O6.out hg7 ho7 hf7
      have KE7 := mkH (ed3_row KE6.out hg7 (fun k hk => (KL.out.own.lt k hk).1) HG.out)
      have L7 := mkH hL7
      refine st_ed rfl _ _ rfl _ _ rfl rfl (fun ty => hr7 ty 1) ?_
      clear hr7 ho7 hg7 hf7 hL7
      refine hK _ _ ⟨KE7.out, ?_⟩
      clear hK K
      refine tk 25 (v') KE7.out ?_
      try simp only [Act.put, jj1, jj2, jj3, jj4, jj5, jj6]
      refine wpAnyH_done (by kernel_rfl) ?_ _
      go_wp2
      go_roundg go
      case measure => omega
      case rel => exact ⟨k + 1, _, by go_num, by omega, by unfold Hid; rw [List.map_append, HF.out, HIT.out]; rfl, by unfold Hid; rw [List.length_append, HL.out]; rfl, L7.out⟩
    · have hi' : ¬ (k : Int) < (en : Int) := by omega
      have hk : k = en := by omega
      subst hk
      have HF2 : Hid (F.map Er.d = E.map Er.d) := by
        have h1 := HF.out
        rw [List.take_of_length_le (by rw [List.length_map]; have := HN.out; omega)] at h1
        exact h1
      clear hgo him hi HF HL hi'
      go_wp2
      go_ret
      exact ⟨_, F, rfl, HF2.out, KL.out⟩
end Go.Proofs.Ytaahklapoppgaaa

namespace Go.Proofs.Ytaahklapoppgaaa
open Go.RowKit

set_option maxRecDepth 8000
theorem onsum_mem : ∀ {D : List Ed} {d : Ed}, d ∈ D → d.O.length ≤ osum D ∧ d.N.length ≤ nsum D
  | x :: D, d, h => by
    rcases List.mem_cons.1 h with rfl | h
    · simp [osum, nsum]
    · have := onsum_mem h
      simp only [osum, nsum, List.map_cons, List.sum_cons] at this ⊢
      omega
theorem sum_step {n ro rn j : Nat} {z u1 u2 u3 : Int} (h1 : IntKind.i64.wrap (1 + (ro : Int)) = u1) (h2 : IntKind.i64.wrap (u1 + (rn : Int)) = u2) (h3 : IntKind.i64.wrap (z + u2) = u3) (h4 : (n : Int) ≤ z ∧ z ≤ (n : Int) + (j : Int) * 2097153) (h5 : ro ≤ 1048576) (h6 : rn ≤ 1048576) (h7 : j < 1048576) (h8 : n ≤ 1048576) : (n : Int) ≤ u3 ∧ u3 ≤ (n : Int) + ((j + 1 : Nat) : Int) * 2097153 := by
  have e1 : u1 = 1 + (ro : Int) := by rw [← h1, IntKind.wrap_i64]; omega
  have e2 : u2 = 1 + (ro : Int) + (rn : Int) := by rw [← h2, e1, IntKind.wrap_i64]; omega
  have e3 : u3 = z + (1 + (ro : Int) + (rn : Int)) := by rw [← h3, e2, IntKind.wrap_i64]; omega
  omega
/-- it says yes or no; no to short ones alone -/
def GtP (n : Nat) (w : World) (e : Ending) (w' : World) : Prop := ∃ b, e = .returned (.bool b) ∧ (b = false → n ≤ 262144) ∧ Below w.heap.size w w'
set_option maxHeartbeats 8000000 in
set_option linter.unusedSimpArgs false in
theorem greatG_any (ao : Option Addr) (n c : Nat) (now : Int) (G : List Nr) (w : World) (HG : Hid (Grz w ao G)) (hn : G.length = n) (hnb : n ≤ 1048576) (hbig : Hid (∀ d ∈ G.map Nr.d, nsum d.ed + osum d.ed + d.ed.length ≤ 1048576)) :
    Calls Try.prog 35 #[.agg #[.slice ao n c, .int .i64 now]] w fun e w' => GtP n w e w' := by
  generalize hW1 : w.alloc (.cells #[.slice ao n c, .int .i64 now] 24) = W1
  have L1 : Hid (Below w.heap.size w W1) := by subst hW1; exact bAlloc (Below.refl _ _) _
  have K1 : Hid (Blk W1 w.heap.size 24 #[.slice ao n c, .int .i64 now]) := by subst hW1; exact Blk.new w 24 _
  obtain ⟨b, hb⟩ : ∃ b, w.heap.size = b := ⟨_, rfl⟩
  rw [hb] at K1
  have HN := mkH hn
  have HNB := mkH hnb
  clear hn hnb
  have a0 := blk_cell0 K1.out
  go_enter Try.func35, Try.ntmps35
  go_wp2_with fail
  clear hW1 hb a0
  go_loopg [3, 4, 5] n (fun m x3 x4 x5 wx => ∃ (i : Nat) (z : Int), x4 = .int .i64 (i : Int) ∧ x3 = .int .i64 z ∧ i + m = n ∧ Hid (i = 0 → z = (n : Int)) ∧ Hid (0 < i → n ≤ 262144) ∧ Hid (Below w.heap.size w wx) ∧ Hid (Blk wx b 24 #[.slice ao n c, .int .i64 now]))
  case atStart => exact ⟨0, _, rfl, rfl, by omega, fun _ => rfl, fun h => absurd h (by omega), L1.out, K1.out⟩
  case round =>
    obtain ⟨i, z, rfl, rfl, him, HZ0, HZ1, KB, KK⟩ := hrel
    obtain ⟨go, hgo⟩ : ∃ g, g = gk - 1 := ⟨_, rfl⟩
    have a4 := blk_cell0 KK.out
    by_cases hi : i < n
    · have hi' : (i : Int) < (n : Int) := by omega
      have hi0 : (0 : Int) ≤ (i : Int) := by omega
      have hw8 : IntKind.i64.wrap ((i : Int) + 1) = ((i + 1 : Nat) : Int) := by rw [IntKind.wrap_i64]; have := HNB.out; omega
      obtain ⟨r, hr⟩ : ∃ r, G[i]? = some r := ⟨_, List.getElem?_eq_getElem (by have := HN.out; omega)⟩
      have hz := HG.out.nds i r hr
      obtain ⟨g, o, rfl, hnc⟩ := HG.out.at hr
      have hc2 := hnc.c2
      obtain ⟨ea, en, ec, he1, he2, he3⟩ : ∃ ea en ec, r.ea = ea ∧ r.en = en ∧ r.ec = ec := ⟨_, _, _, rfl, rfl, rfl⟩
      rw [he1, he2, he3] at hc2
      have HC2 := mkH hc2
      have HZ := mkH hz
      have HE1 := mkH he1
      have HE2 := mkH he2
      have HBR : Hid (nsum (r.E.map Er.d) + osum (r.E.map Er.d) + (r.E.map Er.d).length ≤ 1048576) := hbig.out r.d (List.mem_map.2 ⟨r, List.mem_of_getElem? hr, rfl⟩)
      clear hr hz hnc hc2 he1 he2 he3
      go_wp2_with fail
      clear a4
      go_loopg [3, 5] en (fun m x3 x5 wx => ∃ (j : Nat) (z : Int), x5 = .int .i64 (j : Int) ∧ x3 = .int .i64 z ∧ j + m = en ∧ Hid (i = 0 → (n : Int) ≤ z ∧ z ≤ (n : Int) + (j : Int) * 2097153) ∧ Hid (Below w.heap.size w wx) ∧ Hid (Blk wx b 24 #[.slice (some ⟨g, o, none⟩) n c, .int .i64 now]))
      case atStart => exact ⟨0, _, rfl, rfl, by omega, fun h => by have := HZ0.out h; omega, KB.out, KK.out⟩
      case round =>
        clear KB KK HZ0
        obtain ⟨j, z, rfl, rfl, hjm, HZ0, KB, KK⟩ := hrel
        obtain ⟨go1, hgo1⟩ : ∃ g, g = gk - 1 := ⟨_, rfl⟩
        have a4 := blk_cell0 KK.out
        have a5 := cell_keep HC2.out KB.out
        by_cases hj : j < en
        · have hj' : (j : Int) < (en : Int) := by omega
          have hj0 : (0 : Int) ≤ (j : Int) := by omega
          have hw9 : IntKind.i64.wrap ((j : Int) + 1) = ((j + 1 : Nat) : Int) := by rw [IntKind.wrap_i64]; have := HZ.out.big; have := HE2.out; omega
          obtain ⟨d, hd⟩ : ∃ d, r.E[j]? = some d := ⟨_, List.getElem?_eq_getElem (by have := HZ.out.len; have := HE2.out; omega)⟩
          obtain ⟨g2, o2, hE1, h3⟩ := HZ.out.ez.row.ed3 hd
          have h4 := h3.keep KB.out
          rw [HE1.out] at hE1
          subst hE1
          obtain ⟨ra, rp1, ro, rc1, rO, rp2, rn, rc2, rN⟩ := d
          dsimp only at h4
          have HS : Hid (ro ≤ 1048576 ∧ rn ≤ 1048576 ∧ j < 1048576) := by
            have h1 := onsum_mem (List.mem_map.2 ⟨_, List.mem_of_getElem? hd, rfl⟩ : Er.d ⟨ra, rp1, ro, rc1, rO, rp2, rn, rc2, rN⟩ ∈ r.E.map Er.d)
            have h2 := HZ.out.ez.txs j _ hd
            have h5 : rO.length = ro := h2.t1.len
            have h6 : rN.length = rn := h2.t2.len
            have h7 := HBR.out
            have h8 := (List.getElem?_eq_some_iff.1 hd).1
            rw [List.length_map] at h7
            have h9 : rO.length ≤ osum (r.E.map Er.d) ∧ rN.length ≤ nsum (r.E.map Er.d) := h1
            unfold Hid
            omega
          have t1 := h4.e1
          have t2 := h4.e2
          obtain ⟨u1, hu1⟩ : ∃ u, IntKind.i64.wrap (1 + (ro : Int)) = u := ⟨_, rfl⟩
          obtain ⟨u2, hu2⟩ : ∃ u, IntKind.i64.wrap (u1 + (rn : Int)) = u := ⟨_, rfl⟩
          obtain ⟨u3, hu3⟩ : ∃ u, IntKind.i64.wrap (z + u2) = u := ⟨_, rfl⟩
          have HZ2 : Hid (i = 0 → (n : Int) ≤ u3 ∧ u3 ≤ (n : Int) + ((j + 1 : Nat) : Int) * 2097153) := fun h => by
            have h1 := HZ0.out h
            have h2 := HS.out
            have h3 := HNB.out
            exact sum_step hu1 hu2 hu3 h1 h2.1 h2.2.1 h2.2.2 h3
          clear hd h3 h4 HS
          go_wp2_with fail
          go_quiet (fail)
          go_wp2
          go_roundg go1
          case measure => omega
          case rel => exact ⟨j + 1, u3, by go_num, rfl, by omega, HZ2.out, bT KB.out (below_drewN (Below.refl _ _) _), KK.out.keep (below_drewN (Below.refl _ _) _)⟩
        · have hj' : ¬ (j : Int) < (en : Int) := by omega
          clear hgo1 hjm hj
          by_cases hz : (262144 : Int) < z
          · go_wp2
            go_ret
            exact ⟨_, rfl, (fun h => by cases h), KB.out⟩
          · have HZ3 : Hid (n ≤ 262144) := by
              unfold Hid
              rcases Nat.eq_zero_or_pos i with e | e
              · have := HZ0.out e; omega
              · exact HZ1.out e
            go_wp2
            go_roundg go
            case measure => omega
            case rel => exact ⟨i + 1, z, by go_num, rfl, by omega, (fun h => absurd h (by omega)), fun _ => HZ3.out, KB.out, KK.out⟩
    · have hi' : ¬ (i : Int) < (n : Int) := by omega
      have HZ3 : Hid (n ≤ 262144) := by
        unfold Hid
        rcases Nat.eq_zero_or_pos n with e | e
        · omega
        · exact HZ1.out (by omega)
      clear hgo him hi
      go_wp2
      go_ret
      exact ⟨_, rfl, fun _ => HZ3.out, KB.out⟩
end Go.Proofs.Ytaahklapoppgaaa

namespace Go.Proofs.Ytaahklapoppgaaa
open Go.RowKit

set_option maxRecDepth 8000
theorem Blk.kept {a b B e : Nat} {W W' : World} {cs : Array Value} (h : Blk W B e cs) (hk : Kept a b W W') (hd : B < a ∨ b ≤ B) : Blk W' B e cs := by
  have hl := h.lt
  unfold Blk at h ⊢
  rw [hk.block B hl hd]; exact h
theorem Kept.on {w A B : World} {lo hi : Nat} (h : Below w.heap.size w A) (hk : Kept lo hi A B) (hl : w.heap.size ≤ lo) : Below w.heap.size w B :=
  ⟨hk.os.trans h.os, hk.tape.trans h.tape, hk.output.trans h.output, Nat.le_trans h.size hk.size, fun k hk' => (hk.block k (by have := h.size; omega) (.inl (by omega))).trans (h.block k hk')⟩
/-- a history in a stretch, or none -/
def Ht (lo hi : Nat) (W : World) (ao : Option Addr) (H : List Nr) : Prop := (ao = none ∧ H = []) ∨ ∃ B X S, ao = some ⟨B, 0, none⟩ ∧ Hst lo hi W B H X S
theorem Ht.keep {lo hi : Nat} {W W' : World} {ao : Option Addr} {H : List Nr} (h : Ht lo hi W ao H) (hb : Below W.heap.size W W') : Ht lo hi W' ao H := by
  rcases h with h | ⟨B, X, S, e, h⟩
  · exact .inl h
  · exact .inr ⟨B, X, S, e, h.keep hb⟩
theorem Ht.kept {lo hi a b : Nat} {W W' : World} {ao : Option Addr} {H : List Nr} (h : Ht lo hi W ao H) (hk : Kept a b W W') (hd : b ≤ lo ∨ hi ≤ a) : Ht lo hi W' ao H := by
  rcases h with h | ⟨B, X, S, e, h⟩
  · exact .inl h
  · exact .inr ⟨B, X, S, e, h.kept hk hd⟩
theorem Ht.wide {lo lo' hi : Nat} {W : World} {ao : Option Addr} {H : List Nr} (h : Ht lo hi W ao H) (h1 : lo' ≤ lo) : Ht lo' hi W ao H := by
  rcases h with h | ⟨B, X, S, e, h⟩
  · exact .inl h
  · exact .inr ⟨B, X, S, e, h.row, h.gow.wide h1 (Nat.le_refl _), Nat.le_trans h1 h.l0, h.h0, h.top⟩
theorem Ht.grz {lo hi : Nat} {W : World} {ao : Option Addr} {H : List Nr} (h : Ht lo hi W ao H) : Grz W ao H := by
  rcases h with ⟨rfl, rfl⟩ | ⟨B, X, S, rfl, h⟩
  · exact grz_nil _
  · exact h.grz
theorem Rs.wide {lo lo' hi : Nat} {W : World} {R : List Rw} (h : Rs lo hi W R) (h1 : lo' ≤ lo) : Rs lo' hi W R := ⟨fun i r hi => own_lower (h.own i r hi) h1, h.up, h.far⟩
theorem Ls.wide {lo lo' hi : Nat} {W : World} {v : Value} {F : List Er} (h : Ls lo hi W v F) (h1 : lo' ≤ lo) : Ls lo' hi W v F := ⟨h.rs.wide h1, h.bnd⟩
/-- what Add gives -/
def AdK (z : Int) (D : List Nd) (now : Int) (w : World) (e : Ending) (w' : World) : Prop := ∃ ao n k H, e = .returned (.tuple #[.agg #[.slice ao n k, .int .i64 now], .int .i64 z]) ∧ Ht w.heap.size w'.heap.size w' ao H ∧ H.length = n ∧ n ≤ k ∧ H.map Nr.d = D ∧ n ≤ 5000 ∧ Below w.heap.size w w'
theorem AdK.of {z : Int} {D : List Nd} {now : Int} {w w' : World} {e : Ending} (h : AdP z D now w e w') (hD : z = 0 → D.length ≤ 5000) : AdK z (adD z D) (adN z now) w e w' := by
  by_cases hz : z = 0
  · obtain ⟨B, H, X, S, k, rfl, h1, h2, h3, h4⟩ := h.1 hz
    have e1 : adD z D = D := if_pos hz
    have e2 : adN z now = now := if_pos hz
    rw [e1, e2, hz]
    have hl : H.length = D.length := by rw [← h1, List.length_map]
    exact ⟨_, _, _, H, rfl, .inr ⟨B, X, S, rfl, h3⟩, rfl, h2, h1, by have := hD hz; omega, h4⟩
  · obtain ⟨rfl, h4⟩ := h.2 hz
    have e1 : adD z D = [] := if_neg hz
    have e2 : adN z now = 0 := if_neg hz
    rw [e1, e2]
    exact ⟨none, 0, 0, [], rfl, .inl ⟨rfl, rfl⟩, rfl, Nat.le_refl _, rfl, by omega, h4⟩
/-- what a crossing gives -/
def CrK (z : Int) (s : Wk) (w : World) (e : Ending) (w' : World) : Prop := ∃ p ao n k H va vn vc F, e = .returned (.tuple #[.agg #[.slice ao n k, .int .i64 s.now], .agg (cxa (.slice va vn vc) s.cur s.m), .int .i64 z]) ∧ Ht w.heap.size p w' ao H ∧ H.length = n ∧ n ≤ k ∧ H.map Nr.d = s.G ∧ Ls p w'.heap.size w' (.slice va vn vc) F ∧ F.length = vn ∧ F.map Er.d = s.E ∧ Mw s.m ∧ w.heap.size ≤ p ∧ p ≤ w'.heap.size ∧ Below w.heap.size w w'
theorem CrK.of {z : Int} {s : Wk} {w w' : World} {e : Ending} (h : CrP zm z s w e w') : CrK z (crW z s) w e w' := by
  by_cases hz : z = 0
  · obtain ⟨lo, p, B, k, H, X, S, va, vn, vc, F, rfl, h1, h2, h3, h4, h5, h6, h7, h8, h9, h10⟩ := h.1 hz
    subst hz
    rw [crW_yes]
    exact ⟨p, _, _, _, H, va, vn, vc, F, rfl, Ht.wide (.inr ⟨B, X, S, rfl, h4⟩) h3, rfl, h8, h1, h5.wide (by omega), h6, h2, h7, by have := h4.l0; have := h4.h0; omega, by omega, h10⟩
  · obtain ⟨rfl, h4⟩ := h.2 hz
    have e1 : crW z s = ⟨[], 0, [], 0, zm⟩ := if_neg hz
    rw [e1]
    exact ⟨w.heap.size, none, 0, 0, [], none, 0, 0, [], rfl, .inl ⟨rfl, rfl⟩, rfl, Nat.le_refl _, rfl, ls_nil _ _ _, rfl, rfl, mw_zm, Nat.le_refl _, h4.size, h4⟩
theorem go_k (ao : Option Addr) (n c : Nat) (now tt : Int) (G : List Nr) (m : List Int) (w : World) (HG : Hid (Grz w ao G)) (hn : G.length = n) (hc : n ≤ c) (hm : Mw m) (hbig : Hid (∀ d ∈ G.map Nr.d, d.ed.length ≤ 1048576)) :
    Calls Try.prog 26 #[.agg #[.slice ao n c, .int .i64 now], .int .i64 tt, .agg (mk m)] w fun e w' => CrK (goE (G.map Nr.d) now tt m) (crW (goE (G.map Nr.d) now tt m) ((Wk.new (G.map Nr.d) now m).go (pathU (G.map Nr.d) now.toNat tt.toNat) (pathD (G.map Nr.d) now.toNat tt.toNat))) w e w' :=
  (go_walk zm rfl z50 b50 ao n c now tt G m w HG hn hc hm hbig).mono fun _ _ h => CrK.of h
/-- a world cut off -/
def cutW (W : World) (n : Nat) : World := { W with heap := W.heap.extract 0 n }
theorem cutW_size {W : World} {n : Nat} (h : n ≤ W.heap.size) : (cutW W n).heap.size = n := by simp [cutW]; omega
theorem cutW_below {W : World} {n : Nat} (h : n ≤ W.heap.size) : Below (cutW W n).heap.size (cutW W n) W :=
  ⟨rfl, rfl, rfl, by rw [cutW_size h]; exact h, fun k hk => by
    rw [cutW_size h] at hk
    show W.heap[k]? = (W.heap.extract 0 n)[k]?
    rw [Array.getElem?_extract_of_lt (by omega)]
    simp⟩
theorem spoil_l (lo hi n c : Nat) (p : Option Addr) (F : List Er) (W : World) (h : Hid (Ls lo hi W (.slice p n c) F)) (hl : lo ≤ W.heap.size) (hn : F.length ≤ 140737488355328) : Calls Try.prog 38 #[.slice p n c] W fun e W' => (∃ u, e = .returned u) ∧ Kept lo hi W W' := by
  have h1 : Spw (cutW W lo) hi W W (rowF (.slice p n c) F) := ⟨h.out.rs.rws (cutW_below hl) (by rw [cutW_size hl]; exact Nat.le_refl _), Kept.refl _ _ _, fun i x hi g hg => .inl (h.out.rs.up i x hi g hg)⟩
  have := spoil_any (.slice p n c) F (cutW W lo) W hi h1 (fun k r _ hk => h.out.bnd r (List.mem_of_getElem? hk)) hn
  rwa [cutW_size hl] at this
/-- changes that are written over, one behind the other -/
structure Lp (lo hi : Nat) (W0 W : World) (B n i : Nat) (H : List Nr) (S : List (Nat × Nat)) : Prop where
  row : ∃ H' X, H'.length = n ∧ Nrow W B H' X ∧ Ok58 H' ∧ (∀ k, i ≤ k → H'[k]? = H[k]?) ∧ ∀ r, r ∈ H' → r.was.length = 27
  own : ∀ (k : Nat) (r : Nr) (p : Nat × Nat), i ≤ k → H[k]? = some r → S[k]? = some p → Nw p.1 p.2 W r
  kept : Kept lo hi W0 W
structure Gos (lo hi B n : Nat) (S : List (Nat × Nat)) : Prop where
  len : S.length = n
  off : ∀ (k : Nat) (p : Nat × Nat), S[k]? = some p → (B + 1 ≤ p.1 ∨ p.2 ≤ B) ∧ lo ≤ p.1 ∧ p.1 ≤ p.2 ∧ p.2 ≤ hi
  ord : ∀ (j k : Nat) (p q : Nat × Nat), j ≠ k → S[j]? = some p → S[k]? = some q → p.2 ≤ q.1 ∨ q.2 ≤ p.1
  l0 : lo ≤ B
  h0 : B < hi
theorem Hst.gos {lo hi B n : Nat} {W : World} {H : List Nr} {X : List Value} {S : List (Nat × Nat)} (h : Hst lo hi W B H X S) (hn : H.length = n) : Gos lo hi B n S := ⟨by rw [h.gow.len, hn], h.gow.off, h.gow.ord, h.l0, h.h0⟩
theorem Hst.lp {lo hi B n : Nat} {W : World} {H : List Nr} {X : List Value} {S : List (Nat × Nat)} (h : Hst lo hi W B H X S) (hn : H.length = n) : Lp lo hi W W B n 0 H S :=
  ⟨⟨H, X, hn, h.row, h.gow.ok, fun _ _ => rfl, fun r hr => by
    obtain ⟨k, hk⟩ := List.getElem?_of_mem hr
    exact (h.gow.nz hk).ww.len⟩, fun k r p _ h1 h2 => h.gow.own k r p h1 h2, Kept.refl _ _ _⟩
theorem Lp.c2 {lo hi B n i : Nat} {W0 W : World} {H : List Nr} {S : List (Nat × Nat)} {r : Nr} (h : Lp lo hi W0 W B n i H S) (hr : H[i]? = some r) : W.cell? ⟨B, i * 58 + 2, none⟩ = some (.slice r.ea r.en r.ec) := by
  obtain ⟨H', X, h1, h2, h3, h4, h5⟩ := h.row
  have h6 : H'[i]? = some r := by rw [h4 i (Nat.le_refl _)]; exact hr
  exact (h2.nc h3 h6 (h5 r (List.mem_of_getElem? h6))).c2
/-- behind one change's edits' spoil -/
theorem Lp.spoilt {lo hi B n i : Nat} {W0 W W' : World} {H : List Nr} {S : List (Nat × Nat)} {p : Nat × Nat} (h : Lp lo hi W0 W B n i H S) (g : Gos lo hi B n S) (hp : S[i]? = some p) (hk : Kept p.1 p.2 W W') :
    (∃ H' X, H'.length = n ∧ Nrow W' B H' X ∧ Ok58 H' ∧ (∀ k, i ≤ k → H'[k]? = H[k]?) ∧ ∀ r, r ∈ H' → r.was.length = 27) ∧ (∀ (k : Nat) (r : Nr) (q : Nat × Nat), i + 1 ≤ k → H[k]? = some r → S[k]? = some q → Nw q.1 q.2 W' r) ∧ Kept lo hi W0 W' := by
  obtain ⟨H', X, h1, h2, h3, h4, h5⟩ := h.row
  have ho := g.off i p hp
  refine ⟨⟨H', X, h1, Blk.kept h2 hk (by omega), h3, h4, h5⟩, fun k r q hi hr hq => (h.own k r q (by omega) hr hq).kept hk ?_, h.kept.trans (hk.wide (by omega) (by omega))⟩
  rcases g.ord i k p q (by omega) hp hq with e | e
  · exact .inl e
  · exact .inr e
/-- then one number of the change itself -/
theorem Lp.next {lo hi B n i f : Nat} {W0 W W' : World} {H : List Nr} {S : List (Nat × Nat)} {p : Nat × Nat} {r : Nr} (h : Lp lo hi W0 W B n i H S) (g : Gos lo hi B n S) (hr : H[i]? = some r) (hp : S[i]? = some p) (hk : Kept p.1 p.2 W W') (z : Int) (hf : f < 2) :
    (∃ u, W'.cell? ⟨B, i * 58 + f, none⟩ = some (.int .i64 u)) ∧ W'.frozen? ⟨B, i * 58 + f, none⟩ = false ∧ Lp lo hi W0 (W'.setCell ⟨B, i * 58 + f, none⟩ (.int .i64 z)) B n (i + 1) H S := by
  obtain ⟨⟨H', X, h1, h2, h3, h4, h5⟩, h6, h7⟩ := h.spoilt g hp hk
  have hi' : H'[i]? = some r := by rw [h4 i (Nat.le_refl _)]; exact hr
  have hnc := h2.nc h3 hi' (h5 r (List.mem_of_getElem? hi'))
  have hg := grown_set W' B (i * 58 + f) (.int .i64 z)
  have hk1 := Kept.one hg
  have hown : ∀ (k : Nat) (r : Nr) (q : Nat × Nat), i + 1 ≤ k → H[k]? = some r → S[k]? = some q → Nw q.1 q.2 (W'.setCell ⟨B, i * 58 + f, none⟩ (.int .i64 z)) r := fun k x q e1 e2 e3 => (h6 k x q e1 e2 e3).kept hk1 (by have := g.off k q e3; omega)
  have hkept : Kept lo hi W0 (W'.setCell ⟨B, i * 58 + f, none⟩ (.int .i64 z)) := h7.trans (hk1.wide g.l0 g.h0)
  have hfz : W'.frozen? ⟨B, i * 58 + f, none⟩ = false := Blk.frozen h2 _
  have fin : ∀ (r' : Nr) (a b : List Value) (o : Value), a.length = f → r.cs = a ++ [o] ++ b → r'.cs = a ++ [.int .i64 z] ++ b → r'.was.length = 27 → Lp lo hi W0 (W'.setCell ⟨B, i * 58 + f, none⟩ (.int .i64 z)) B n (i + 1) H S := fun r' a b o ha e1 e2 e3 => by
    have hput := h2.put (r' := r') (a := a) (old := [o]) (vs := [.int .i64 z]) (b := b) h3 hi' e1 e2 rfl
    rw [ha] at hput
    refine ⟨⟨H'.set i r', X, by rw [List.length_set, h1], hput, fun x hx => ?_, fun k hk => ?_, fun x hx => ?_⟩, hown, hkept⟩
    · rcases List.mem_or_eq_of_mem_set hx with hx | rfl
      · exact h3 x hx
      · rw [e2]; have := h3 r (List.mem_of_getElem? hi'); rw [e1] at this; simpa using this
    · rw [List.getElem?_set_ne (by omega)]; exact h4 k (by omega)
    · rcases List.mem_or_eq_of_mem_set hx with hx | rfl
      · exact h5 x hx
      · exact e3
  have hw := h5 r (List.mem_of_getElem? hi')
  rcases (by omega : f = 0 ∨ f = 1) with rfl | rfl
  · exact ⟨⟨_, hnc.c0⟩, hfz, fin { r with par := z } [] (.int .i64 r.nxt :: .slice r.ea r.en r.ec :: .int .i64 r.cur :: (ml r.was ++ ml r.made)) (.int .i64 r.par) rfl rfl rfl hw⟩
  · exact ⟨⟨_, hnc.c1⟩, hfz, fin { r with nxt := z } [.int .i64 r.par] (.slice r.ea r.en r.ec :: .int .i64 r.cur :: (ml r.was ++ ml r.made)) (.int .i64 r.nxt) rfl rfl rfl hw⟩
theorem wl_bldg {ops : Array Oper} {rest : List Oper} {op : Oper} {a : Act} {w : World} {Q : Exit → Act → World → Prop} {v : Value} (hw : Region.wanted op (yielded ops a.tmps) = true) (t : TypeId) (parts : Array (Nat × Operand)) (ho : op.op = .build t parts) (vs : Array (Nat × Value)) (he : (parts.map fun (i, x) => (i, a.eval x)) = vs) (hrun : (Instr.build t vs).run Try.prog w = .ok v w) (hr : wpList Try.prog ops Q rest (a.put op.dst v) w) : wpList Try.prog ops Q (op :: rest) a w := by
  simp only [wpList, hw, if_true]
  refine .inl ?_
  unfold Oper.wp execOp
  simp only [ho]
  rw [he]
  simp only [Sem.run_bind, hrun, Result.andThen_ok, Sem.run_pure]
  exact hr
theorem wl_bslg {ops : Array Oper} {rest : List Oper} {op : Oper} {a : Act} {w w' : World} {Q : Exit → Act → World → Prop} {v : Value} (hw : Region.wanted op (yielded ops a.tmps) = true) (t : TypeId) (n : Nat) (parts : Array (Nat × Operand)) (ho : op.op = .buildSlice t n parts) (vs : Array (Nat × Value)) (he : (parts.map fun (i, x) => (i, a.eval x)) = vs) (hrun : (Instr.buildSlice t n vs).run Try.prog w = .ok v w') (hr : wpList Try.prog ops Q rest (a.put op.dst v) w') : wpList Try.prog ops Q (op :: rest) a w := by
  simp only [wpList, hw, if_true]
  refine .inl ?_
  unfold Oper.wp execOp
  simp only [ho]
  rw [he]
  simp only [Sem.run_bind, hrun, Result.andThen_ok, Sem.run_pure]
  exact hr
theorem b63e (w : World) (ea : Option Addr) (en ec : Nat) (E : List Er) : (Instr.build 63 #[(2, .slice ea en ec)]).run Try.prog w = .ok (.agg (nd ⟨0, 0, ea, en, ec, E, 0, zm, zm⟩)) w := by kernel_rfl
/-- a history of one change, for great -/
theorem grz_one {W : World} {r : Nr} (hz : Nz W r) : Grz (W.alloc (.cells (nd r) 63)) (some ⟨W.heap.size, 0, none⟩) [r] := by
  refine ⟨fun k x hk => ?_, fun k x hk => ?_⟩
  · obtain ⟨rfl, rfl⟩ : k = 0 ∧ x = r := by
      cases k with
      | zero => simp at hk; exact ⟨rfl, hk.symm⟩
      | succ k => simp at hk
    exact ⟨_, 0, rfl, by have := range_blk (cs := x.cs) (Blk.new W 63 x.cs.toArray); exact this⟩
  · obtain ⟨rfl, rfl⟩ : k = 0 ∧ x = r := by
      cases k with
      | zero => simp at hk; exact ⟨rfl, hk.symm⟩
      | succ k => simp at hk
    exact hz.keep (bAlloc (Below.refl _ _) _)
/-- what a copy gives -/
def RcK (D : List Nd) (now : Int) (w : World) (e : Ending) (w' : World) : Prop := ∃ ao k H, e = .returned (.agg #[.slice ao D.length k, .int .i64 now]) ∧ H.map Nr.d = D ∧ D.length ≤ k ∧ Ht w.heap.size w'.heap.size w' ao H ∧ Below w.heap.size w w'
theorem RcK.of {D : List Nd} {now : Int} {w w' : World} {e : Ending} (h : RcP D now w e w') : RcK D now w e w' := by
  obtain ⟨v, H, S, rfl, h1, h2, h3⟩ := h
  have hl : H.length = D.length := by rw [← h1, List.length_map]
  rcases h2.own.2 with ⟨hv, h0⟩ | ⟨B, k, cur, hv, -, -, hk, -⟩
  · obtain rfl : H = [] := List.eq_nil_of_length_eq_zero h0
    subst hv
    exact ⟨none, 0, [], by rw [← hl]; rfl, h1, by rw [← hl]; exact Nat.le_refl _, .inl ⟨rfl, rfl⟩, h3⟩
  · subst hv
    obtain ⟨X, hx, -⟩ := h2.row
    exact ⟨some ⟨B, 0, none⟩, k, H, by rw [hl], h1, by rw [← hl]; exact hk, .inr ⟨B, X, S, rfl, hx⟩, h3⟩
/-- a history in a box -/
structure Bg (W : World) (q lo hi : Nat) (ao : Option Addr) (n k : Nat) (now : Int) (H : List Nr) : Prop where
  b : Blk W q 24 #[.slice ao n k, .int .i64 now]
  h : Ht lo hi W ao H
theorem Bg.keep {W W' : World} {q lo hi n k : Nat} {ao : Option Addr} {now : Int} {H : List Nr} (h : Bg W q lo hi ao n k now H) (hb : Below W.heap.size W W') : Bg W' q lo hi ao n k now H := ⟨h.b.keep hb, h.h.keep hb⟩
theorem Bg.kept {W W' : World} {q lo hi n k a b : Nat} {ao : Option Addr} {now : Int} {H : List Nr} (h : Bg W q lo hi ao n k now H) (hk : Kept a b W W') (h1 : b ≤ lo ∨ hi ≤ a) (h2 : q < a ∨ b ≤ q) : Bg W' q lo hi ao n k now H := ⟨h.b.kept hk h2, h.h.kept hk h1⟩
theorem Bg.put {w W : World} {q lo hi n k : Nat} {ao : Option Addr} {now : Int} {H : List Nr} (hW : w.alloc (.cells #[.slice none 0 0, .int .i64 0] 24) = W) (hq : w.heap.size = q) (hg : Ht lo hi w ao H) : Bg ((W.setCell ⟨q, 0, none⟩ (.slice ao n k)).setCell ⟨q, 1, none⟩ (.int .i64 now)) q lo hi ao n k now H ∧ Below w.heap.size w ((W.setCell ⟨q, 0, none⟩ (.slice ao n k)).setCell ⟨q, 1, none⟩ (.int .i64 now)) := by
  subst hW hq
  have hb : Below w.heap.size w (((w.alloc (.cells #[.slice none 0 0, .int .i64 0] 24)).setCell ⟨w.heap.size, 0, none⟩ (.slice ao n k)).setCell ⟨w.heap.size, 1, none⟩ (.int .i64 now)) := ((bAlloc (Below.refl _ _) _).setCell (Nat.le_refl _) _).setCell (Nat.le_refl _) _
  exact ⟨⟨set24 (Blk.new w 24 _), hg.keep hb⟩, hb⟩
/-- a crossing in a box -/
structure Bk5 (W : World) (q lo hi : Nat) (va : Option Addr) (vn vc : Nat) (cu : Int) (m : List Int) (F : List Er) : Prop where
  b : Blk W q 50 (cxa (.slice va vn vc) cu m)
  l : Ls lo hi W (.slice va vn vc) F
theorem Bk5.keep {W W' : World} {q lo hi vn vc : Nat} {va : Option Addr} {cu : Int} {m : List Int} {F : List Er} (h : Bk5 W q lo hi va vn vc cu m F) (hb : Below W.heap.size W W') : Bk5 W' q lo hi va vn vc cu m F := ⟨h.b.keep hb, h.l.keep hb⟩
theorem Bk5.kept {W W' : World} {q lo hi vn vc a b : Nat} {va : Option Addr} {cu : Int} {m : List Int} {F : List Er} (h : Bk5 W q lo hi va vn vc cu m F) (hk : Kept a b W W') (h1 : b ≤ lo ∨ hi ≤ a) (h2 : q < a ∨ b ≤ q) : Bk5 W' q lo hi va vn vc cu m F := ⟨h.b.kept hk h2, h.l.kept hk h1⟩
/-- the reference's crossing, in its boxes -/
structure Rf (W : World) (sz q r : Nat) (ao : Option Addr) (n k : Nat) (now : Int) (H : List Nr) (va : Option Addr) (vn vc : Nat) (cu : Int) (m : List Int) (F : List Er) : Prop where
  b24 : Blk W q 24 #[.slice ao n k, .int .i64 now]
  b50 : Blk W r 50 (cxa (.slice va vn vc) cu m)
  cl : ∀ W', Kept 0 sz W W' → Grz W' ao H ∧ Edz W' va F
  hq : sz ≤ q ∧ sz ≤ r
theorem Rf.keep {W W' : World} {sz q r n k vn vc : Nat} {ao va : Option Addr} {now cu : Int} {H : List Nr} {m : List Int} {F : List Er} (h : Rf W sz q r ao n k now H va vn vc cu m F) (hb : Below W.heap.size W W') : Rf W' sz q r ao n k now H va vn vc cu m F :=
  ⟨h.b24.keep hb, h.b50.keep hb, fun W2 hk => h.cl W2 ((Kept.of_below hb (Nat.le_refl _)).trans hk), h.hq⟩
theorem Rf.kept {W W' : World} {sz q r n k vn vc a b : Nat} {ao va : Option Addr} {now cu : Int} {H : List Nr} {m : List Int} {F : List Er} (h : Rf W sz q r ao n k now H va vn vc cu m F) (hk : Kept a b W W') (h1 : b ≤ sz) : Rf W' sz q r ao n k now H va vn vc cu m F :=
  ⟨h.b24.kept hk (.inr (by have := h.hq; omega)), h.b50.kept hk (.inr (by have := h.hq; omega)), fun W2 hk2 => h.cl W2 ((hk.wide (Nat.zero_le _) h1).trans hk2), h.hq⟩
theorem Rf.gz {W : World} {sz q r n k vn vc : Nat} {ao va : Option Addr} {now cu : Int} {H : List Nr} {m : List Int} {F : List Er} (h : Rf W sz q r ao n k now H va vn vc cu m F) : Grz W ao H ∧ Edz W va F := h.cl W (Kept.refl _ _ _)
/-- a loop over changes that are written over -/
def Lql (lo hi : Nat) (W0 W : World) (ao : Option Addr) (n i : Nat) (H : List Nr) : Prop := Kept lo hi W0 W ∧ (i < n → hi ≤ W.heap.size ∧ ∃ B S, ao = some ⟨B, 0, none⟩ ∧ H.length = n ∧ Gos lo hi B n S ∧ Lp lo hi W0 W B n i H S)
theorem Lql.start {lo hi n : Nat} {W : World} {ao : Option Addr} {H : List Nr} (h : Ht lo hi W ao H) (hn : H.length = n) : Lql lo hi W W ao n 0 H := by
  refine ⟨Kept.refl _ _ _, fun h0 => ?_⟩
  rcases h with ⟨-, rfl⟩ | ⟨B, X, S, e, h⟩
  · simp at hn; omega
  · exact ⟨h.top, B, S, e, hn, h.gos hn, h.lp hn⟩
theorem Lql.get {lo hi n i : Nat} {W0 W : World} {ao : Option Addr} {H : List Nr} (h : Lql lo hi W0 W ao n i H) (hi' : i < n) :
    ∃ B ea en ec F a b, ao = some ⟨B, 0, none⟩ ∧ W.cell? ⟨B, i * 58 + 2, none⟩ = some (.slice ea en ec) ∧ Ls a b W (.slice ea en ec) F ∧ a ≤ W.heap.size ∧ F.length ≤ 140737488355328 ∧ lo ≤ a ∧ b ≤ hi ∧ B < hi ∧ lo ≤ B ∧
      ∀ (W' : World), Kept a b W W' → ∀ (f : Nat) (z : Int), f < 2 → (∃ u, W'.cell? ⟨B, i * 58 + f, none⟩ = some (.int .i64 u)) ∧ W'.frozen? ⟨B, i * 58 + f, none⟩ = false ∧ Lql lo hi W0 (W'.setCell ⟨B, i * 58 + f, none⟩ (.int .i64 z)) ao n (i + 1) H := by
  obtain ⟨h1, B, S, e, hn, hg, hp⟩ := h.2 hi'
  obtain ⟨r, hr⟩ : ∃ r, H[i]? = some r := ⟨_, List.getElem?_eq_getElem (by omega)⟩
  obtain ⟨p, hS⟩ : ∃ p, S[i]? = some p := ⟨_, List.getElem?_eq_getElem (by rw [hg.len]; exact hi')⟩
  have hw := hp.own i r p (Nat.le_refl _) hr hS
  have ho := hg.off i p hS
  refine ⟨B, r.ea, r.en, r.ec, r.E, p.1, p.2, e, hp.c2 hr, hw.ls, by omega, by have := hw.big; have := hw.len; omega, ho.2.1, ho.2.2.2, hg.h0, hg.l0, fun W' hk f z hf => ?_⟩
  obtain ⟨e1, e2, e3⟩ := hp.next hg hr hS hk z hf
  exact ⟨e1, e2, e3.kept, fun _ => ⟨by have := hk.size; simp; omega, B, S, e, hn, hg, e3⟩⟩
/-- a change to be put in, its edits in a stretch -/
theorem nz_mine {lo hi en mc : Nat} {W : World} {ma : Option Addr} {F : List Er} {now cur : Int} {was made : List Int} (h : Ls lo hi W (.slice ma en mc) F) (hl : F.length = en) (hb : en * 56 ≤ 140737488355328) (hw : Mw was) (hm : Mw made) : Nz W ⟨now, 0, ma, en, mc, F, cur, was, made⟩ :=
  Nw.nz (lo := lo) (hi := hi) ⟨h, hl, hb, hw, hm⟩
end Go.Proofs.Ytaahklapoppgaaa

