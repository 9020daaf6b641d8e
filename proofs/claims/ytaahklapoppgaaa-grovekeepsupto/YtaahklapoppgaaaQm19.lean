/- The program's hangs. -/
import Derived.Test.YtaahklapoppgaaaQm14
namespace Go.Proofs.Ytaahklapoppgaaa
open Go.RowKit

set_option maxRecDepth 8000
/-- those ahead of number i hang as they should -/
def HgI (D : List Nd) (i : Nat) : Prop := ∀ (k : Nat) (n : Nd), 0 < k → k < i → D[k]? = some n → (0 ≤ n.par ∧ n.par < (k : Int)) ∧ Sound n
theorem HgI.step {D : List Nd} {i : Nat} {n : Nd} (h : HgI D i) (hi : D[i]? = some n) (h1 : 0 ≤ n.par ∧ n.par < (i : Int)) (h2 : Sound n) : HgI D (i + 1) := fun k m h0 hk hm => by
  by_cases e : k = i
  · subst e; rw [hi] at hm; cases hm; exact ⟨h1, h2⟩
  · exact h k m h0 (by omega) hm
theorem HgI.all {D : List Nd} {i : Nat} (h : HgI D i) (hi : D.length ≤ i) : Hangs D := fun k n h0 hk => h k n h0 (by have := (List.getElem?_eq_some_iff.1 hk).1; omega) hk
set_option maxHeartbeats 8000000 in
set_option linter.unusedSimpArgs false in
theorem hangs_any (ao : Option Addr) (n c : Nat) (G : List Nr) (w : World) (HG : Hid (Grz w ao G)) (hn : G.length = n) (h0 : 0 < n) (hc : n ≤ c) (hb : n ≤ 4097) : Calls Try.prog 48 #[.slice ao n c] w fun e w' => e = .returned (.bool (tb (Hangs (G.map Nr.d)))) ∧ Below w.heap.size w w' := by
  have HN := mkH hn
  obtain ⟨g, o, rfl, hat0⟩ := HG.out.base (by omega)
  have HA := mkH hat0
  clear hn hat0
  go_enter Try.func48, Try.ntmps48
  go_wp2_with fail
  go_loopg [3] (n - 1) (fun m x3 wx => ∃ i : Nat, x3 = .int .i64 (i : Int) ∧ i + m = n ∧ 0 < i ∧ Hid (HgI (G.map Nr.d) i) ∧ Hid (Below w.heap.size w wx))
  case atStart => exact ⟨1, rfl, by omega, by omega, (fun k m h1 h2 _ => by omega), Below.refl _ _⟩
  case round =>
    obtain ⟨i, rfl, him, hi1, HF, KB⟩ := hrel
    obtain ⟨go, hgo⟩ : ∃ g, g = gk - 1 := ⟨_, rfl⟩
    by_cases hi : i < n
    · have hi' : (i : Int) < (n : Int) := by omega
      have hi0 : (0 : Int) ≤ (i : Int) := by omega
      have hic : (i : Int) ≤ (c : Int) := by omega
      obtain ⟨r, hr⟩ : ∃ r, G[i]? = some r := ⟨_, List.getElem?_eq_getElem (by have := HN.out; omega)⟩
      have HC := mkH ((HA.out i r hr).keep KB.out)
      have HZ := mkH ((HG.out.nds i r hr).keep KB.out)
      have HD : Hid ((G.map Nr.d)[i]? = some r.d) := by unfold Hid; rw [List.getElem?_map, hr]; rfl
      have hw1 : IntKind.i64.wrap ((i : Int) + 1) = ((i + 1 : Nat) : Int) := by rw [IntKind.wrap_i64]; omega
      have CH0 := fun W => has_any (some ⟨g, o, none⟩) i c r.par W
      have CS0 := fun W (hW : Below wr.heap.size wr W) => sound_any r g (o + i * 58) W (HZ.out.keep hW) (HC.out.keep hW)
      have KD : Hid (Nc wr.drew g (o + i * 58) r) := HC.out.keep (Below.refl _ _).drew
      have LD : Hid (Below wr.heap.size wr wr.drew) := (Below.refl _ _).drew
      clear hr
      obtain ⟨par, hpar⟩ : ∃ x, r.par = x := ⟨_, rfl⟩
      have hP : Hid (r.d.par = par) := hpar
      have HR : Hid (par = r.par) := hpar.symm
      rw [hpar] at CH0
      clear hpar
      go_upto_region 4 with fail
      by_cases hh : 0 ≤ par ∧ par < (i : Int)
      · rw [decide_eq_true hh] at CH0
        by_cases hs : Sound r.d
        · rw [tb_t hs] at CS0
          have HPP := mkH hh
          have HSS := mkH hs
          have CH := mkH CH0
          have CS := mkH CS0
          clear hh hs CH0 CS0
          refine wp_region_held (S := fun w' => Nc w' g (o + i * 58) r) (by kernel_rfl) ?_
          change wpAnyH _ _ _ _ _ _ _ _ (World.drew _)
          generalize wr.drew = V3 at *
          refine tk 0 (.slice (some ⟨g, o, none⟩) n c) KD.out ?_
          refine tk 1 (.int .i64 (i : Int)) KD.out ?_
          refine tk 2 (.slice (some ⟨g, o, none⟩) i c) KD.out ?_
          refine tk 3 (.slice (some ⟨g, o, none⟩) n c) KD.out ?_
          try simp only [Act.put, jj1, jj2, jj3, jj4, jj5, jj6]
          refine tk 4 (.int .i64 (i : Int)) KD.out ?_
          refine tk 5 (.pointer (some ⟨g, o + i * 58, none⟩)) KD.out ?_
          refine tk 6 (.pointer (some ⟨g, o + i * 58, none⟩)) KD.out ?_
          refine ta 7 (.int .i64 par) rfl (Or.inl ⟨by rfl, fun w9 h9 => by have h1 := h9.c0; rw [← HR.out] at h1; go_simp⟩) KD.out ?_
          try simp only [Act.put, jj1, jj2, jj3, jj4, jj5, jj6]
          refine wpAnyH_all (rs := [8]) (by kernel_rfl) (by simp) (AllH.cons rfl (fun K hK => ?_) AllH.nil)
          go_simp
          refine (CH.out V3).mono ?_
          rintro e w4 ⟨rfl, hw⟩
          have hq := hw.symm
          subst hq
          clear hw
          dsimp only
          refine hK _ _ ⟨KD.out, ?_⟩
          clear hK K
          try simp only [Act.put, jj1, jj2, jj3, jj4, jj5, jj6]
          refine tk 9 (.bool false) KD.out ?_
          refine tk 10 (.bool false) KD.out ?_
          refine tk 11 (.slice (some ⟨g, o, none⟩) n c) KD.out ?_
          refine tk 12 (.int .i64 (i : Int)) KD.out ?_
          try simp only [Act.put, jj1, jj2, jj3, jj4, jj5, jj6]
          refine tk 13 (.pointer (some ⟨g, o + i * 58, none⟩)) KD.out ?_
          try simp only [Act.put, jj1, jj2, jj3, jj4, jj5, jj6]
          refine wpAnyH_all (rs := [14]) (by kernel_rfl) (by simp) (AllH.cons rfl (fun K hK => ?_) AllH.nil)
          go_simp
          refine (CS.out V3 LD.out).mono ?_
          rintro e w5 ⟨rfl, hw⟩
          have K5 := mkH (KD.out.keep hw)
          have L5 := mkH (bT LD.out hw)
          clear hw
          dsimp only
          refine hK _ _ ⟨K5.out, ?_⟩
          clear hK K
          refine tk 15 (.bool false) K5.out ?_
          refine tk 16 (.bool false) K5.out ?_
          try simp only [Act.put, jj1, jj2, jj3, jj4, jj5, jj6]
          refine wpAnyH_done (by kernel_rfl) ?_ _
          go_wp2
          go_roundg go
          case measure => omega
          case rel => exact ⟨i + 1, by go_num, by omega, by omega, HF.out.step HD.out (by rw [hP.out]; exact HPP.out) HSS.out, bT KB.out L5.out⟩
        · rw [tb_f hs] at CS0
          have HSS := mkH hs
          have CH := mkH CH0
          have CS := mkH CS0
          clear hh hs CH0 CS0
          refine wp_region_held (S := fun w' => Nc w' g (o + i * 58) r) (by kernel_rfl) ?_
          change wpAnyH _ _ _ _ _ _ _ _ (World.drew _)
          generalize wr.drew = V3 at *
          refine tk 0 (.slice (some ⟨g, o, none⟩) n c) KD.out ?_
          refine tk 1 (.int .i64 (i : Int)) KD.out ?_
          try simp only [Act.put, jj1, jj2, jj3, jj4, jj5, jj6]
          refine tk 2 (.slice (some ⟨g, o, none⟩) i c) KD.out ?_
          refine tk 3 (.slice (some ⟨g, o, none⟩) n c) KD.out ?_
          refine tk 4 (.int .i64 (i : Int)) KD.out ?_
          refine tk 5 (.pointer (some ⟨g, o + i * 58, none⟩)) KD.out ?_
          try simp only [Act.put, jj1, jj2, jj3, jj4, jj5, jj6]
          refine tk 6 (.pointer (some ⟨g, o + i * 58, none⟩)) KD.out ?_
          refine ta 7 (.int .i64 par) rfl (Or.inl ⟨by rfl, fun w9 h9 => by have h1 := h9.c0; rw [← HR.out] at h1; go_simp⟩) KD.out ?_
          try simp only [Act.put, jj1, jj2, jj3, jj4, jj5, jj6]
          refine wpAnyH_all (rs := [8]) (by kernel_rfl) (by simp) (AllH.cons rfl (fun K hK => ?_) AllH.nil)
          go_simp
          refine (CH.out V3).mono ?_
          rintro e w4 ⟨rfl, hw⟩
          have hq := hw.symm
          subst hq
          clear hw
          dsimp only
          refine hK _ _ ⟨KD.out, ?_⟩
          clear hK K
          refine tk 9 (.bool false) KD.out ?_
          refine tk 10 (.bool false) KD.out ?_
          try simp only [Act.put, jj1, jj2, jj3, jj4, jj5, jj6]
          refine tk 11 (.slice (some ⟨g, o, none⟩) n c) KD.out ?_
          refine tk 12 (.int .i64 (i : Int)) KD.out ?_
          refine tk 13 (.pointer (some ⟨g, o + i * 58, none⟩)) KD.out ?_
          try simp only [Act.put, jj1, jj2, jj3, jj4, jj5, jj6]
          refine wpAnyH_all (rs := [14]) (by kernel_rfl) (by simp) (AllH.cons rfl (fun K hK => ?_) AllH.nil)
          go_simp
          refine (CS.out V3 LD.out).mono ?_
          rintro e w5 ⟨rfl, hw⟩
          have K5 := mkH (KD.out.keep hw)
          have L5 := mkH (bT LD.out hw)
          clear hw
          dsimp only
          refine hK _ _ ⟨K5.out, ?_⟩
          clear hK K
          refine tk 15 (.bool true) K5.out ?_
          try simp only [Act.put, jj1, jj2, jj3, jj4, jj5, jj6]
          refine tk 16 (.bool true) K5.out ?_
          try simp only [Act.put, jj1, jj2, jj3, jj4, jj5, jj6]
          refine wpAnyH_done (by kernel_rfl) ?_ _
          go_wp2
          go_ret
          exact ⟨by rw [tb_f (fun h => HSS.out (h i r.d hi1 HD.out).2)]; rfl, bT KB.out L5.out⟩
      · rw [decide_eq_false hh] at CH0
        have HPP := mkH hh
        have CH := mkH CH0
        clear hh CH0 CS0
        refine wp_region_held (S := fun w' => Nc w' g (o + i * 58) r) (by kernel_rfl) ?_
        change wpAnyH _ _ _ _ _ _ _ _ (World.drew _)
        generalize wr.drew = V3 at *
        refine tk 0 (.slice (some ⟨g, o, none⟩) n c) KD.out ?_
        refine tk 1 (.int .i64 (i : Int)) KD.out ?_
        refine tk 2 (.slice (some ⟨g, o, none⟩) i c) KD.out ?_
        refine tk 3 (.slice (some ⟨g, o, none⟩) n c) KD.out ?_
        try simp only [Act.put, jj1, jj2, jj3, jj4, jj5, jj6]
        refine tk 4 (.int .i64 (i : Int)) KD.out ?_
        refine tk 5 (.pointer (some ⟨g, o + i * 58, none⟩)) KD.out ?_
        refine tk 6 (.pointer (some ⟨g, o + i * 58, none⟩)) KD.out ?_
        refine ta 7 (.int .i64 par) rfl (Or.inl ⟨by rfl, fun w9 h9 => by have h1 := h9.c0; rw [← HR.out] at h1; go_simp⟩) KD.out ?_
        try simp only [Act.put, jj1, jj2, jj3, jj4, jj5, jj6]
        refine wpAnyH_all (rs := [8]) (by kernel_rfl) (by simp) (AllH.cons rfl (fun K hK => ?_) AllH.nil)
        go_simp
        refine (CH.out V3).mono ?_
        rintro e w4 ⟨rfl, hw⟩
        have hq := hw.symm
        subst hq
        clear hw
        dsimp only
        refine hK _ _ ⟨KD.out, ?_⟩
        clear hK K
        try simp only [Act.put, jj1, jj2, jj3, jj4, jj5, jj6]
        refine tk 9 (.bool true) KD.out ?_
        refine tk 10 (.bool true) KD.out ?_
        refine ta 11 undef rfl (Or.inr ⟨by rfl, rfl⟩) KD.out ?_
        refine ta 12 undef rfl (Or.inr ⟨by rfl, rfl⟩) KD.out ?_
        try simp only [Act.put, jj1, jj2, jj3, jj4, jj5, jj6]
        refine ta 13 undef rfl (Or.inr ⟨by rfl, rfl⟩) KD.out ?_
        refine ta 14 undef rfl (Or.inr ⟨by rfl, rfl⟩) KD.out ?_
        refine ta 15 undef rfl (Or.inr ⟨by rfl, rfl⟩) KD.out ?_
        refine tk 16 (.bool true) KD.out ?_
        try simp only [Act.put, jj1, jj2, jj3, jj4, jj5, jj6]
        refine wpAnyH_done (by kernel_rfl) ?_ _
        go_wp2
        go_ret
        exact ⟨by rw [tb_f (fun h => HPP.out (by have := (h i r.d hi1 HD.out).1; rwa [hP.out] at this))]; rfl, bT KB.out LD.out⟩
    · have hi' : ¬ (i : Int) < (n : Int) := by omega
      go_wp2
      go_ret
      exact ⟨by rw [tb_t (HF.out.all (by rw [List.length_map, HN.out]; omega))]; rfl, KB.out⟩
end Go.Proofs.Ytaahklapoppgaaa

