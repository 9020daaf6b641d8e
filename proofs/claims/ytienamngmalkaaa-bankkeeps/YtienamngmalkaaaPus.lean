/- BankPushes, walked. -/
import Derived.Test.YtienamngmalkaaaAwk
import Derived.Deep.CutRange
import Derived.Deep.QuietTactic
import Derived.BigQuiet
namespace Go.Proofs.Ytienamngmalkaaa
open Go.RowKit

set_option maxRecDepth 8000
theorem putP_del {P : List Ct} {t : List UInt8} (ht : t.length ≤ 65536) : putP P 0 2 ⟨false, false, t⟩ = ((((pushL P).set 2 ⟨true, false, t⟩).set 0 ⟨true, false, t⟩).set 0 ⟨true, false, t⟩, 0) := by
  have hd : putD P 0 0 ⟨false, false, t⟩ = ⟨true, false, t⟩ := by
    unfold putD
    rw [show grt 0 = false from rfl]
    rfl
  unfold putP
  rw [show rix 0 = some 0 from rfl]
  dsimp only
  rw [if_neg (by decide), if_neg (by omega), if_neg (by simp), hd, if_neg (by dsimp only; omega), if_pos rfl]
  rfl
/-- the bank behind i deletions -/
def psP (l : Nat → List UInt8) : Nat → List Ct
  | 0 => zP
  | i + 1 => (putP (psP l i) 0 2 ⟨false, false, l i⟩).1
theorem psP_ok {l : Nat → List UInt8} : ∀ i, (∀ j, j < i → (l j).length ≤ 65536) → (psP l i).length = 37 ∧ (∀ (k : Nat) (c : Ct), (psP l i)[k]? = some c → c.t.length ≤ 65536) ∧ ∀ k, k < 9 → (psP l i)[2 + k]? = some (if k < i then ⟨true, false, l (i - 1 - k)⟩ else zc)
  | 0, _ => by
    refine ⟨rfl, fun k c h => ?_, fun k hk => ?_⟩
    · unfold psP zP at h
      rw [List.getElem?_replicate] at h
      split at h
      · injection h with h; rw [← h]; exact Nat.zero_le _
      · cases h
    · unfold psP zP
      rw [List.getElem?_replicate, if_pos (by omega), if_neg (by omega)]
  | i + 1, h => by
    obtain ⟨h1, h2, h3⟩ := psP_ok i (fun j hj => h j (by omega))
    have hl := h i (by omega)
    have e : psP l (i + 1) = (((pushL (psP l i)).set 2 ⟨true, false, l i⟩).set 0 ⟨true, false, l i⟩).set 0 ⟨true, false, l i⟩ := by
      show (putP (psP l i) 0 2 ⟨false, false, l i⟩).1 = _
      rw [putP_del hl]
    rw [e]
    refine ⟨by simp [pushL_len h1], fun k c hc => ?_, fun k hk => ?_⟩
    · rcases set_at hc with ⟨_, hc⟩ | ⟨_, rfl⟩
      · rcases set_at hc with ⟨_, hc⟩ | ⟨_, rfl⟩
        · rcases set_at hc with ⟨_, hc⟩ | ⟨_, rfl⟩
          · rw [pushL_at h1] at hc; exact h2 _ _ hc
          · exact hl
        · exact hl
      · exact hl
    · rw [List.getElem?_set_ne (by omega), List.getElem?_set_ne (by omega)]
      rcases Nat.eq_zero_or_pos k with rfl | hk0
      · rw [List.getElem?_set_self (by rw [pushL_len h1]; decide), if_pos (by omega)]
        rfl
      · rw [List.getElem?_set_ne (by omega), pushL_at h1, show psh (2 + k) = 2 + (k - 1) by unfold psh; rw [if_neg (by omega), if_pos (by omega)]; omega, h3 (k - 1) (by omega)]
        by_cases hki : k - 1 < i
        · rw [if_pos hki, if_pos (by omega), show i - 1 - (k - 1) = i + 1 - 1 - k by omega]
        · rw [if_neg hki, if_neg (by omega)]
theorem rix_num {k : Nat} (hk : k < 9) : rix (49 + k) = some (2 + k) := by
  unfold rix
  rw [if_neg (by omega), if_neg (by omega), if_pos (by omega)]
  congr 1; omega
theorem psP_get {l : Nat → List UInt8} {i : Nat} (h : ∀ j, j < i → (l j).length ≤ 65536) {k : Nat} (hk : k < 9) : getP (psP l i) (49 + k) = if k < i then (⟨true, false, l (i - 1 - k)⟩, 0) else (zc, 151) := by
  obtain ⟨_, _, h3⟩ := psP_ok i h
  unfold getP
  rw [rix_num hk]
  dsimp only
  rw [List.getD_eq_getElem?_getD, h3 k hk]
  by_cases hki : k < i
  · rw [if_pos hki, if_pos hki]; rfl
  · rw [if_neg hki, if_neg hki]; rfl
theorem Tx.drewN {W : World} {a : Option Addr} {n c : Nat} {t : List UInt8} (h : Tx W a n c t) (m : Nat) : Tx (W.drewN m) a n c t := ⟨h.len, h.cap, h.big, h.nil, h.cells⟩
/-- a list of texts in memory -/
def Prow (W : World) (ao : Option Addr) (n : Nat) (A : Nat → Option Addr) (L C : Nat → Nat) (l : Nat → List UInt8) : Prop :=
  ∀ r, r < n → ∃ g o, ao = some ⟨g, o, none⟩ ∧ W.cell? ⟨g, o + r, none⟩ = some (.slice (A r) (L r) (C r)) ∧ Tx W (A r) (L r) (C r) (l r) ∧ L r ≤ 140737488351232
/-- the state of the law's loop -/
structure Ps (w : World) (q : Nat) (l : Nat → List UInt8) (i : Nat) (W : World) (M : List Rg) : Prop where
  len : M.length = 37
  b : Blk W q 28 (bk M)
  rd : Rdb W M (psP l i)
  bel : Below w.heap.size w W
  q1 : w.heap.size ≤ q
  sh : ∀ j, j < i → (l j).length ≤ 65536
theorem Ps.keep {w : World} {q : Nat} {l : Nat → List UInt8} {i : Nat} {W W' : World} {M : List Rg} (h : Ps w q l i W M) (hb : Below W.heap.size W W') : Ps w q l i W' M := ⟨h.len, h.b.keep hb, h.rd.keep hb, bT h.bel hb, h.q1, h.sh⟩
theorem bdrewN {w W : World} {b : Nat} (h : Below b w W) (m : Nat) : Below b w (W.drewN m) := ⟨h.os, h.tape, h.output, h.size, h.block⟩
theorem Ps.drewN {w : World} {q : Nat} {l : Nat → List UInt8} {i : Nat} {W : World} {M : List Rg} (h : Ps w q l i W M) (m : Nat) : Ps w q l i (W.drewN m) M := h.keep (bdrewN (Below.refl _ _) m)
set_option linter.unusedSimpArgs false in
set_option maxHeartbeats 8000000 in
theorem bankPushes_walk (ao : Option Addr) (n c : Nat) (A : Nat → Option Addr) (L C : Nat → Nat) (l : Nat → List UInt8) (w : World) (HP : Hid (Prow w ao n A L C l)) (hn : n ≤ 140737488351232) :
    Calls Try.prog 6 #[.slice ao n c] w fun e w' => e = .returned (.bool true) ∧ Below w.heap.size w w' := by
  have hz := z28
  have hnI : (n : Int) ≤ 140737488351232 := by omega
  have CA := Hid.mk' (awake_any w)
  go_enter Try.func6, Try.ntmps6
  go_wp2_with fail
  refine CA.out.mono ?_
  rintro e w1 ⟨rfl, hb1⟩
  have P0 : Hid (Ps w w1.heap.size l 0 (w1.alloc (.cells (bk zb) 28)) zb) := ⟨rfl, Blk.new w1 28 _, rdb_zero _, bT hb1 (bAlloc (Below.refl _ _) _), hb1.size, fun j hj => by omega⟩
  clear hb1 CA
  go_wp2_with fail
  generalize w1.alloc (.cells (bk zb) 28) = w2 at *
  obtain ⟨q, hq⟩ : ∃ q, q = w1.heap.size := ⟨_, rfl⟩
  rw [← hq] at P0 ⊢
  clear hq
  go_loopg [4, 5] n (fun m x4 x5 wx => ∃ i : Nat, x4 = .int .i64 (i : Int) ∧ x5 = .int .i64 (i : Int) ∧ i + m = n ∧ ∃ M, Hid (Ps w q l i wx M))
  case atStart => exact ⟨0, rfl, rfl, by omega, _, P0.out⟩
  case round =>
    obtain ⟨i, rfl, rfl, him, M, PI⟩ := hrel
    obtain ⟨go, hgo⟩ : ∃ g, g = gk - 1 := ⟨_, rfl⟩
    clear P0
    by_cases hi : i < n
    · have hi' : (i : Int) < (n : Int) := by omega
      have hi0 : (0 : Int) ≤ (i : Int) := by omega
      obtain ⟨g, o, rfl, hc0, hTi, hLi⟩ := HP.out i hi
      have HGQ : Hid (g < w.heap.size) := lt_of_cell hc0
      have hci := PI.out.bel.cell (lt_of_cell hc0)
      rw [hc0] at hci
      have TI := Hid.mk' (hTi.keep PI.out.bel)
      have hLI : ((L i : Nat) : Int) ≤ 140737488351232 := by omega
      obtain ⟨Li, hLe⟩ : ∃ x, x = L i := ⟨_, rfl⟩
      obtain ⟨Ai, hAe⟩ : ∃ x, x = A i := ⟨_, rfl⟩
      obtain ⟨Ci, hCe⟩ : ∃ x, x = C i := ⟨_, rfl⟩
      obtain ⟨li, hle⟩ : ∃ x, x = l i := ⟨_, rfl⟩
      rw [← hLe, ← hAe, ← hCe] at hci
      rw [← hLe, ← hAe, ← hCe, ← hle] at TI
      rw [← hLe] at hLI
      have HE := Hid.mk' hle
      clear hc0 hTi hLi hLe hAe hCe hle
      by_cases hlong : 65536 < Li
      · have hlong' : (65536 : Int) < (Li : Int) := by omega
        have BL := Hid.mk' PI.out.bel
        go_wp2
        go_ret
        exact ⟨rfl, BL.out⟩
      · have hlong' : ¬ (65536 : Int) < (Li : Int) := by omega
        have hl2 : li.length ≤ 65536 := by have := TI.out.len; omega
        have hput : (putP (psP l i) 0 2 ⟨false, false, li⟩).2 = 0 := by rw [putP_del hl2]
        have hput1 : (putP (psP l i) 0 2 ⟨false, false, li⟩).1 = psP l (i + 1) := by rw [HE.out]; rfl
        have PA := Hid.mk' (fun W (h1 : Rdb W M (psP l i)) (h2 : Tx W Ai Li Ci li) => put_any M (psP l i) 0 2 false false Ai Li Ci li W (by decide) h1 h2)
        rw [hput, hput1] at PA
        have hsh : Hid (∀ j, j < i + 1 → (l j).length ≤ 65536) := fun j hj => by
          rcases Nat.lt_or_ge j i with h | h
          · exact PI.out.sh j h
          · obtain rfl : j = i := by omega
            rw [← HE.out]; exact hl2
        clear hput hput1
        go_upto_region 10 with fail
        go_cut [6, 7] from 13 to 36 (fun x6 x7 wx => x7 = .int .i64 0 ∧ ∃ p M2, x6 = .pointer (some ⟨p, 0, none⟩) ∧ p ≠ q ∧ List.length M2 = 37 ∧ Hid (Blk wx p 28 (bk M2)) ∧ Hid (Rdb wx M2 (psP l (i + 1))) ∧ Hid (Blk wx q 28 (bk M)) ∧ Hid (Below w.heap.size w wx))
        case first =>
          have hlM := PI.out.len
          have XD : Hid (Blk wr.drew q 28 (bk M)) := PI.out.b
          have YD : Hid (wr.drew.cell? ⟨g, o + i, none⟩ = some (.slice Ai Li Ci)) := hci
          have DD : Hid (Rdb wr.drew M (psP l i)) := PI.out.rd.keep (Below.refl _ _).drew
          have LD : Hid (Below w.heap.size w wr.drew) := PI.out.bel.drew
          have TD : Hid (Tx wr.drew Ai Li Ci li) := TI.out.keep (Below.refl _ _).drew
          refine wp_region_held (S := fun w' => Blk w' q 28 (bk M) ∧ w'.cell? ⟨g, o + i, none⟩ = some (.slice Ai Li Ci)) (by kernel_rfl) ?_
          change wpAnyH _ _ _ _ _ _ _ _ (World.drew _)
          generalize wr.drew = V3 at *
          refine wpAnyH_take (i := 0) (v := .agg (bk M)) rfl (by kernel_rfl) (by kernel_rfl) (by kernel_rfl) (fun _ _ _ h => h) (yi28 rfl (.tmp 3) rfl rfl hlM (fun _ h => h.1)) ⟨XD.out, YD.out⟩ ?_
          try simp only [Act.put, List.getElem_toArray, List.getElem_cons_zero, List.getElem_cons_succ, List.setIfInBounds_toArray, List.set_cons_zero, List.set_cons_succ]
          refine wpAnyH_take (i := 1) (v := .slice (some ⟨g, o, none⟩) n c) rfl (by kernel_rfl) (by kernel_rfl) (by kernel_rfl) (fun _ _ _ h => h) (Yields.yieldsIf (Or.inl ⟨by rfl, fun w => by go_simp⟩)) ⟨XD.out, YD.out⟩ ?_
          try simp only [Act.put, List.getElem_toArray, List.getElem_cons_zero, List.getElem_cons_succ, List.setIfInBounds_toArray, List.set_cons_zero, List.set_cons_succ]
          refine wpAnyH_take (i := 2) (v := .int .i64 (i : Int)) rfl (by kernel_rfl) (by kernel_rfl) (by kernel_rfl) (fun _ _ _ h => h) (Yields.yieldsIf (Or.inl ⟨by rfl, fun w => by go_simp⟩)) ⟨XD.out, YD.out⟩ ?_
          try simp only [Act.put, List.getElem_toArray, List.getElem_cons_zero, List.getElem_cons_succ, List.setIfInBounds_toArray, List.set_cons_zero, List.set_cons_succ]
          refine wpAnyH_take (i := 3) (v := .pointer (some ⟨g, o + i, none⟩)) rfl (by kernel_rfl) (by kernel_rfl) (by kernel_rfl) (fun _ _ _ h => h) (Yields.yieldsIf (Or.inl ⟨by rfl, fun w => by go_simp⟩)) ⟨XD.out, YD.out⟩ ?_
          try simp only [Act.put, List.getElem_toArray, List.getElem_cons_zero, List.getElem_cons_succ, List.setIfInBounds_toArray, List.set_cons_zero, List.set_cons_succ]
          refine wpAnyH_take (i := 4) (v := .slice Ai Li Ci) rfl (by kernel_rfl) (by kernel_rfl) (by kernel_rfl) (fun _ _ _ h => h) (Or.inl ⟨by rfl, fun w9 h9 => by have h8 := h9.2; go_simp⟩) ⟨XD.out, YD.out⟩ ?_
          try simp only [Act.put, List.getElem_toArray, List.getElem_cons_zero, List.getElem_cons_succ, List.setIfInBounds_toArray, List.set_cons_zero, List.set_cons_succ]
          refine wpAnyH_take (i := 5) (v := .agg #[.bool false, .bool false, .slice Ai Li Ci]) rfl (by kernel_rfl) (by kernel_rfl) (by kernel_rfl) (fun _ _ _ h => h) (Yields.yieldsIf (Or.inl ⟨by rfl, fun w => by go_simp⟩)) ⟨XD.out, YD.out⟩ ?_
          try simp only [Act.put, List.getElem_toArray, List.getElem_cons_zero, List.getElem_cons_succ, List.setIfInBounds_toArray, List.set_cons_zero, List.set_cons_succ]
          refine wpAnyH_all (rs := [6, 10]) (by kernel_rfl) (by simp) (AllH.cons rfl (fun K hK => ?_) (AllH.cons rfl (fun K hK => ?_) AllH.nil))
          · skip
            go_simp
            refine (PA.out _ DD.out TD.out).mono ?_
            rintro e w4 ⟨N2, rfl, hN2⟩
            have hb4 := hN2.own.bel
            have hl2 := hN2.len
            have X4 := Hid.mk' (XD.out.keep hb4)
            have Y4 : Hid (w4.cell? ⟨g, o + i, none⟩ = some (.slice Ai Li Ci)) := (hb4.cell (lt_of_cell YD.out)).trans YD.out
            have L4 := Hid.mk' (bT LD.out hb4)
            have E4 : Hid (Rdb w4 N2 (psP l (i + 1))) := New.rdb hN2 (fun k c h => Nat.le_trans ((psP_ok (i + 1) hsh.out).2.1 k c h) (by decide))
            clear hN2 hb4
            dsimp only
            refine hK _ _ ⟨⟨X4.out, Y4.out⟩, ?_⟩
            clear hK K
            try simp only [Act.put, List.getElem_toArray, List.getElem_cons_zero, List.getElem_cons_succ, List.setIfInBounds_toArray, List.set_cons_zero, List.set_cons_succ]
            refine wpAnyH_take (i := 7) (v := .tuple #[.agg (bk N2), .int .i64 0]) rfl (by kernel_rfl) (by kernel_rfl) (by kernel_rfl) (fun _ _ _ h => h) (Yields.yieldsIf (Or.inl ⟨by rfl, fun w => by go_simp⟩)) ⟨X4.out, Y4.out⟩ ?_
            try simp only [Act.put, List.getElem_toArray, List.getElem_cons_zero, List.getElem_cons_succ, List.setIfInBounds_toArray, List.set_cons_zero, List.set_cons_succ]
            refine wpAnyH_take (i := 8) (v := .agg (bk N2)) rfl (by kernel_rfl) (by kernel_rfl) (by kernel_rfl) (fun _ _ _ h => h) (Yields.yieldsIf (Or.inl ⟨by rfl, fun w => by go_simp⟩)) ⟨X4.out, Y4.out⟩ ?_
            try simp only [Act.put, List.getElem_toArray, List.getElem_cons_zero, List.getElem_cons_succ, List.setIfInBounds_toArray, List.set_cons_zero, List.set_cons_succ]
            refine wpAnyH_take (i := 9) (v := .int .i64 0) rfl (by kernel_rfl) (by kernel_rfl) (by kernel_rfl) (fun _ _ _ h => h) (Yields.yieldsIf (Or.inl ⟨by rfl, fun w => by go_simp⟩)) ⟨X4.out, Y4.out⟩ ?_
            try simp only [Act.put, List.getElem_toArray, List.getElem_cons_zero, List.getElem_cons_succ, List.setIfInBounds_toArray, List.set_cons_zero, List.set_cons_succ]
            refine wpAnyH_all (rs := [10]) (by kernel_rfl) (by simp) (AllH.cons rfl (fun K hK => ?_) AllH.nil)
            go_simp
            have hb4 := bAlloc (Below.refl _ w4) (.cells (bk zb) 28)
            have X5 := Hid.mk' (X4.out.keep hb4)
            have Y5 : Hid ((w4.alloc (.cells (bk zb) 28)).cell? ⟨g, o + i, none⟩ = some (.slice Ai Li Ci)) := (hb4.cell (lt_of_cell Y4.out)).trans Y4.out
            have L5 := Hid.mk' (bT L4.out hb4)
            have A5 : Hid (Blk (w4.alloc (.cells (bk zb) 28)) w4.heap.size 28 (bk zb)) := Blk.new _ _ _
            have E5 := Hid.mk' (E4.out.keep hb4)
            clear hb4
            obtain ⟨q5, hq5⟩ : ∃ q, q = w4.heap.size := ⟨_, rfl⟩
            have HQq5 : Hid (w.heap.size ≤ q5) := by have h1 := L4.out.size; unfold Hid; omega
            have HNq5 : Hid (q ≠ q5) := by have h1 := X4.out.lt; unfold Hid; omega
            rw [← hq5] at A5 ⊢
            generalize w4.alloc (.cells (bk zb) 28) = w5 at *
            clear hq5
            refine hK _ _ ⟨⟨X5.out, Y5.out⟩, ?_⟩
            clear hK K
            try simp only [Act.put, List.getElem_toArray, List.getElem_cons_zero, List.getElem_cons_succ, List.setIfInBounds_toArray, List.set_cons_zero, List.set_cons_succ]
            refine wpAnyH_all (rs := [11]) (by kernel_rfl) (by simp) (AllH.cons rfl (fun K hK => ?_) AllH.nil)
            refine st28 rfl (.tmp 6) (.tmp 33) rfl rfl rfl hl2 rfl A5.out ?_
            have G6 := grown_put28 w5 q5 N2
            have F6 := Hid.mk' (Blk.put28 hl2 rfl A5.out)
            have E6 := Hid.mk' (E5.out.off_bk A5.out G6)
            have L6 : Hid (Below w.heap.size w (put28 w5 q5 N2)) := below_put28 L5.out HQq5.out N2
            have X6 : Hid (Blk (put28 w5 q5 N2) q 28 (bk M)) := X5.out.grown G6 (by have := HNq5.out; simpa using this)
            have Y6 : Hid ((put28 w5 q5 N2).cell? ⟨g, o + i, none⟩ = some (.slice Ai Li Ci)) := by
              have hg := HGQ.out
              have h9 := HQq5.out
              rw [World.cell?_of_block (G6.block g (lt_of_cell Y5.out) (by simp; omega))]
              exact Y5.out
            clear G6
            generalize put28 w5 q5 N2 = w6 at *
            refine hK _ _ ⟨⟨X6.out, Y6.out⟩, ?_⟩
            clear hK K
            try simp only [Act.put, List.getElem_toArray, List.getElem_cons_zero, List.getElem_cons_succ, List.setIfInBounds_toArray, List.set_cons_zero, List.set_cons_succ]
            refine wpAnyH_take (i := 12) (v := .int .i64 0) rfl (by kernel_rfl) (by kernel_rfl) (by kernel_rfl) (fun _ _ _ h => h) (Yields.yieldsIf (Or.inl ⟨by rfl, fun w => by go_simp⟩)) ⟨X6.out, Y6.out⟩ ?_
            try simp only [Act.put, List.getElem_toArray, List.getElem_cons_zero, List.getElem_cons_succ, List.setIfInBounds_toArray, List.set_cons_zero, List.set_cons_succ]
            refine wpAnyH_done (by kernel_rfl) ?_ _
            go_wp2_with fail
            go_meet
            exact ⟨rfl, _, _, rfl, Ne.symm HNq5.out, hl2, F6.out, E6.out, X6.out, L6.out⟩
          · skip
            go_simp
            have hb4 := bAlloc (Below.refl _ V3) (.cells (bk zb) 28)
            have X4 := Hid.mk' (XD.out.keep hb4)
            have Y4 : Hid ((V3.alloc (.cells (bk zb) 28)).cell? ⟨g, o + i, none⟩ = some (.slice Ai Li Ci)) := (hb4.cell (lt_of_cell YD.out)).trans YD.out
            have L4 := Hid.mk' (bT LD.out hb4)
            have A4 : Hid (Blk (V3.alloc (.cells (bk zb) 28)) V3.heap.size 28 (bk zb)) := Blk.new _ _ _
            have T4 := Hid.mk' (TD.out.keep hb4)
            have D4 := Hid.mk' (DD.out.keep hb4)
            clear hb4
            obtain ⟨q4, hq4⟩ : ∃ q, q = V3.heap.size := ⟨_, rfl⟩
            have HQq4 : Hid (w.heap.size ≤ q4) := by have h1 := LD.out.size; unfold Hid; omega
            have HNq4 : Hid (q ≠ q4) := by have h1 := XD.out.lt; unfold Hid; omega
            rw [← hq4] at A4 ⊢
            generalize V3.alloc (.cells (bk zb) 28) = w4 at *
            clear hq4
            refine hK _ _ ⟨⟨X4.out, Y4.out⟩, ?_⟩
            clear hK K
            try simp only [Act.put, List.getElem_toArray, List.getElem_cons_zero, List.getElem_cons_succ, List.setIfInBounds_toArray, List.set_cons_zero, List.set_cons_succ]
            refine wpAnyH_all (rs := [6]) (by kernel_rfl) (by simp) (AllH.cons rfl (fun K hK => ?_) AllH.nil)
            go_simp
            refine (PA.out _ D4.out T4.out).mono ?_
            rintro e w5 ⟨N2, rfl, hN2⟩
            have hb4 := hN2.own.bel
            have hl2 := hN2.len
            have X5 := Hid.mk' (X4.out.keep hb4)
            have Y5 : Hid (w5.cell? ⟨g, o + i, none⟩ = some (.slice Ai Li Ci)) := (hb4.cell (lt_of_cell Y4.out)).trans Y4.out
            have L5 := Hid.mk' (bT L4.out hb4)
            have E5 : Hid (Rdb w5 N2 (psP l (i + 1))) := New.rdb hN2 (fun k c h => Nat.le_trans ((psP_ok (i + 1) hsh.out).2.1 k c h) (by decide))
            have A5 := Hid.mk' (A4.out.keep hb4)
            clear hN2 hb4
            dsimp only
            refine hK _ _ ⟨⟨X5.out, Y5.out⟩, ?_⟩
            clear hK K
            try simp only [Act.put, List.getElem_toArray, List.getElem_cons_zero, List.getElem_cons_succ, List.setIfInBounds_toArray, List.set_cons_zero, List.set_cons_succ]
            refine wpAnyH_take (i := 7) (v := .tuple #[.agg (bk N2), .int .i64 0]) rfl (by kernel_rfl) (by kernel_rfl) (by kernel_rfl) (fun _ _ _ h => h) (Yields.yieldsIf (Or.inl ⟨by rfl, fun w => by go_simp⟩)) ⟨X5.out, Y5.out⟩ ?_
            try simp only [Act.put, List.getElem_toArray, List.getElem_cons_zero, List.getElem_cons_succ, List.setIfInBounds_toArray, List.set_cons_zero, List.set_cons_succ]
            refine wpAnyH_take (i := 8) (v := .agg (bk N2)) rfl (by kernel_rfl) (by kernel_rfl) (by kernel_rfl) (fun _ _ _ h => h) (Yields.yieldsIf (Or.inl ⟨by rfl, fun w => by go_simp⟩)) ⟨X5.out, Y5.out⟩ ?_
            try simp only [Act.put, List.getElem_toArray, List.getElem_cons_zero, List.getElem_cons_succ, List.setIfInBounds_toArray, List.set_cons_zero, List.set_cons_succ]
            refine wpAnyH_take (i := 9) (v := .int .i64 0) rfl (by kernel_rfl) (by kernel_rfl) (by kernel_rfl) (fun _ _ _ h => h) (Yields.yieldsIf (Or.inl ⟨by rfl, fun w => by go_simp⟩)) ⟨X5.out, Y5.out⟩ ?_
            try simp only [Act.put, List.getElem_toArray, List.getElem_cons_zero, List.getElem_cons_succ, List.setIfInBounds_toArray, List.set_cons_zero, List.set_cons_succ]
            refine wpAnyH_all (rs := [11]) (by kernel_rfl) (by simp) (AllH.cons rfl (fun K hK => ?_) AllH.nil)
            refine st28 rfl (.tmp 6) (.tmp 33) rfl rfl rfl hl2 rfl A5.out ?_
            have G6 := grown_put28 w5 q4 N2
            have F6 := Hid.mk' (Blk.put28 hl2 rfl A5.out)
            have E6 := Hid.mk' (E5.out.off_bk A5.out G6)
            have L6 : Hid (Below w.heap.size w (put28 w5 q4 N2)) := below_put28 L5.out HQq4.out N2
            have X6 : Hid (Blk (put28 w5 q4 N2) q 28 (bk M)) := X5.out.grown G6 (by have := HNq4.out; simpa using this)
            have Y6 : Hid ((put28 w5 q4 N2).cell? ⟨g, o + i, none⟩ = some (.slice Ai Li Ci)) := by
              have hg := HGQ.out
              have h9 := HQq4.out
              rw [World.cell?_of_block (G6.block g (lt_of_cell Y5.out) (by simp; omega))]
              exact Y5.out
            clear G6
            generalize put28 w5 q4 N2 = w6 at *
            refine hK _ _ ⟨⟨X6.out, Y6.out⟩, ?_⟩
            clear hK K
            try simp only [Act.put, List.getElem_toArray, List.getElem_cons_zero, List.getElem_cons_succ, List.setIfInBounds_toArray, List.set_cons_zero, List.set_cons_succ]
            refine wpAnyH_take (i := 12) (v := .int .i64 0) rfl (by kernel_rfl) (by kernel_rfl) (by kernel_rfl) (fun _ _ _ h => h) (Yields.yieldsIf (Or.inl ⟨by rfl, fun w => by go_simp⟩)) ⟨X6.out, Y6.out⟩ ?_
            try simp only [Act.put, List.getElem_toArray, List.getElem_cons_zero, List.getElem_cons_succ, List.setIfInBounds_toArray, List.set_cons_zero, List.set_cons_succ]
            refine wpAnyH_done (by kernel_rfl) ?_ _
            go_wp2_with fail
            go_meet
            exact ⟨rfl, _, _, rfl, Ne.symm HNq4.out, hl2, F6.out, E6.out, X6.out, L6.out⟩
        case rest =>
        obtain ⟨rfl, p, M2, rfl, hpq, hl3, KP, KR, KQ, KL⟩ := hcut
        have hqq := PI.out.q1
        have hlM := PI.out.len
        clear PI PA TI hci
        have PN : Hid (Ps w q l (i + 1) (put28 wc q M2) M2) := ⟨hl3, Blk.put28 hl3 hlM KQ.out, KR.out.off_bk KQ.out (grown_put28 wc q M2), below_put28 KL.out hqq M2, hqq, hsh.out⟩
        go_wp2_with (first | (refine wl_load28 (.tmp 6) rfl rfl rfl hl3 KP.out ?_) | (refine wl_store28 (.tmp 3) (.tmp 37) rfl rfl rfl rfl hl3 hlM KQ.out ?_))
        generalize put28 wc q M2 = wd at *
        clear KP KR KQ KL hpq hsh hlM hqq
        go_loopg [8] 9 (fun m x8 wx => ∃ k : Nat, x8 = .int .i64 (k : Int) ∧ k + m = 9 ∧ Hid (Ps w q l (i + 1) wx M2))
        case atStart => exact ⟨0, rfl, rfl, PN.out⟩
        case round =>
          obtain ⟨k, rfl, hkm, PK⟩ := hrel
          clear PN
          by_cases hk : k < 9
          · have hk' : (k : Int) < 9 := by omega
            have hw1 : IntKind.i64.wrap (49 + (k : Int)) = 49 + (k : Int) := by rw [IntKind.wrap_i64]; omega
            have hw2 : IntKind.u8.wrap (49 + (k : Int)) = 49 + (k : Int) := by rw [IntKind.wrap_u8]; omega
            have CG := Hid.mk' (get_any M2 (psP l (i + 1)) (49 + k) wr (by omega) PK.out.rd)
            rw [psP_get PK.out.sh hk] at CG
            rw [show ((49 + k : Nat) : Int) = 49 + (k : Int) by omega] at CG
            unfold gE at CG
            by_cases hki : k < i + 1
            · have hki' : ¬ ((i : Int) + 1) ≤ (k : Int) := by omega
              rw [if_pos hki] at CG
              dsimp only at CG
              obtain ⟨r, hr⟩ : ∃ r, r = i + 1 - 1 - k := ⟨_, rfl⟩
              rw [← hr] at CG
              have hs1 : IntKind.i64.wrap ((i : Int) + 1 - 1) = (i : Int) := by rw [IntKind.wrap_i64]; omega
              have hs2 : IntKind.i64.wrap ((i : Int) - (k : Int)) = (r : Int) := by rw [IntKind.wrap_i64]; omega
              have hr1 : (r : Int) < (n : Int) := by omega
              have hr0 : (0 : Int) ≤ (r : Int) := by omega
              obtain ⟨g', o', e', hcr, hTr, hLr⟩ := HP.out r (by omega)
              obtain ⟨eg, eo⟩ : g = g' ∧ o = o' := by simpa using e'
              subst eg eo
              go_wp2_with (refine wl_load28 (.tmp 3) rfl rfl rfl PK.out.len PK.out.b ?_)
              refine CG.out.mono ?_
              rintro e w8 ⟨a8, c8, n8, hn8, rfl, hO8, hb8⟩
              have hlr : (l r).length ≤ 65536 := PK.out.sh r (by omega)
              obtain ⟨a9, c9, hv9, hT9⟩ := own_txl hO8 (by omega)
              obtain ⟨ea, ec⟩ : a8 = a9 ∧ c8 = c9 := by simpa using hv9
              subst ea ec
              have hba := bAlloc (Below.refl _ w8) (.cells #[.bool true, .bool false, .slice a8 n8 c8] 24)
              have X8 := Hid.mk' (Blk.new w8 24 #[.bool true, .bool false, .slice a8 n8 c8])
              have PL := Hid.mk' ((PK.out.keep hb8).keep hba)
              have HT9 := Hid.mk' (hT9.keep hba)
              have HTR := Hid.mk' (hTr.keep PL.out.bel)
              have hcr2 := (PL.out.bel.cell (lt_of_cell hcr)).trans hcr
              generalize hWA : w8.alloc (.cells #[.bool true, .bool false, .slice a8 n8 c8] 24) = w9 at *
              have x2 : w9.cell? ⟨w8.heap.size, 2, none⟩ = some (.slice a8 n8 c8) := X8.out.cell rfl
              clear hn8 hO8 hb8 hv9 hT9 hba CG PK hTr hcr hr e'
              go_wp2_with fail
              clear hWA
              have V3 : ∀ m, (convert 22 9 (.slice a8 n8 c8)).run Try.prog (w9.drewN m) = .ok (.string ⟨(l r).toArray⟩) (w9.drewN m) := fun m => conv_tx (HT9.out.drewN m)
              have V4 : ∀ m, (convert 22 9 (.slice (A r) (L r) (C r))).run Try.prog (w9.drewN m) = .ok (.string ⟨(l r).toArray⟩) (w9.drewN m) := fun m => conv_tx (HTR.out.drewN m)
              go_quiet (fail)
              go_wp2
              go_roundg (gk - 1)
              case rel => exact ⟨k + 1, by go_num, by omega, (PL.out.drewN nq)⟩
              case measure => omega
            · have hki' : ((i : Int) + 1) ≤ (k : Int) := by omega
              rw [if_neg hki] at CG
              dsimp only [zc] at CG
              go_wp2_with (refine wl_load28 (.tmp 3) rfl rfl rfl PK.out.len PK.out.b ?_)
              refine CG.out.mono ?_
              rintro e w8 ⟨a8, c8, n8, hn8, rfl, hO8, hb8⟩
              have PL := Hid.mk' ((PK.out.keep hb8).keep (bAlloc (Below.refl _ w8) (.cells #[.bool false, .bool false, .slice a8 n8 c8] 24)))
              clear hn8 hO8 hb8 CG PK
              go_wp2
              go_roundg (gk - 1)
              case rel => exact ⟨k + 1, by go_num, by omega, PL.out⟩
              case measure => omega
          · have hk' : ¬ (k : Int) < 9 := by omega
            go_wp2
            go_roundg go
            case rel => exact ⟨i + 1, by go_num, by go_num, by omega, _, PK.out⟩
            case measure => omega
    · have hi' : ¬ (i : Int) < (n : Int) := by omega
      have BL := Hid.mk' PI.out.bel
      go_wp2
      go_ret
      exact ⟨rfl, BL.out⟩
end Go.Proofs.Ytienamngmalkaaa
