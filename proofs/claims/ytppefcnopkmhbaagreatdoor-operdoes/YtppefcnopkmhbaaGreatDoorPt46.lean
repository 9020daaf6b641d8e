/- Apa, Lnw, Lsy -/
import Derived.Test.YtppefcnopkmhbaaGreatDoorPt45
import Derived.Test.YtppefcnopkmhbaaGreatDoorPt29
namespace Go.Proofs.YtppefcnopkmhbaaGreatDoor
open Go.RowKit

/-- the marks -/
def mkA (k : Nat) : Value := .int .u8 ((k : Int) % 256)
def mkB (k : Nat) : Value := .int .u8 (((k : Int) + 100) % 256)

set_option maxRecDepth 100000 in
set_option maxHeartbeats 2000000 in
theorem apart_walk (al : Option Addr) (cl m : Nat) (X : Nat → Value) (N : Nat → Nat) (Z0 : Nat → List Value) (base : Nat) (w : World) (hm : m ≤ 33554432) (hN : Hid (∀ k, k < m → N k ≤ 4294967296)) (hbase : base ≤ w.heap.size)
    (hL : Hid (w.ownsRow base 22 1 (.slice al m cl) m ((List.range m).map X))) (hM : Hid (Many w w base m X (fun _ => 0) mkA X N Z0)) :
    Calls Tryz.prog 14 #[.slice al m cl] w fun e w' => e = .returned (.bool true) ∧ w'.os = w.os ∧ w'.tape = w.tape ∧ w'.output = w.output ∧ w.heap.size ≤ w'.heap.size ∧ ∀ k, k < w.heap.size → (∀ j, j < m → (X j).ownBlock ≠ some k) → w'.heap[k]? = w.heap[k]? := by
  have HXs : Hid (∀ k, k < m → (X k = .slice none 0 0 ∧ N k = 0) ∨ ∃ g c, X k = .slice (some ⟨g, 0, none⟩) (N k) c) := fun k hk => by
    rcases (hM.out.own k hk).2 with ⟨h1, h2⟩ | ⟨g, cap, cur, h1, _⟩
    · exact .inl ⟨h1, h2⟩
    · exact .inr ⟨g, cap, h1⟩
  go_enter Tryz.func14, Tryz.ntmps14
  go_wp2_with fail
  go_loopw [18] (fun x wr => ∃ (i : Nat) (Z : Nat → List Value), i ≤ m ∧ x = .int .i64 i ∧ Many w wr base m X (fun _ => 0) mkA X N Z ∧ (∀ k, k < i → Z k = List.replicate (N k) (mkA k)) ∧ wr.ownsRow base 22 1 (.slice al m cl) m ((List.range m).map X)) (fun x _ => m - (intOf x).toNat)
  case atStart => exact ⟨0, Z0, Nat.zero_le _, rfl, hM.out, fun k hk => by omega, hL.out⟩
  case round =>
    obtain ⟨i, Z, hi, rfl, hMa, hZ, hLs⟩ := hrel
    have HM : Hid (Many w wr base m X (fun _ => 0) mkA X N Z) := hMa
    have HZ : Hid (∀ k, k < i → Z k = List.replicate (N k) (mkA k)) := hZ
    have HL : Hid (wr.ownsRow base 22 1 (.slice al m cl) m ((List.range m).map X)) := hLs
    clear hMa hZ hLs
    by_cases hlt : i < m
    · obtain ⟨gl, cl', hal, -, -⟩ := own_some HL.out (by omega)
      have hal2 : al = some ⟨gl, 0, none⟩ := by simp at hal; exact hal.1
      subst hal2
      clear hal
      obtain ⟨ax, cx, hX⟩ := lx_shape (HM.out.own i hlt)
      have hc : wr.cell? ⟨gl, i, none⟩ = some (.slice ax (N i) cx) := by
        rw [HL.out.cellAt i (by omega), ← hX]; simp [hlt]
      have HX : Hid (X i = .slice ax (N i) cx) := hX
      have hNi := hN.out i hlt
      have hi0 : (0 : Int) ≤ (i : Int) := by omega
      have hi1 : (i : Int) < (m : Int) := by omega
      clear hX
      obtain ⟨wo, hwo⟩ : ∃ wo : World, wo = wr := ⟨_, rfl⟩
      subst hwo
      go_wp2_with fail
      go_loopw [25] (fun x wr => ∃ (j : Nat) (Z : Nat → List Value), j ≤ N i ∧ x = .int .i64 j ∧ Many w wr base m X (fun _ => 0) mkA X N Z ∧ (∀ k, k < i → Z k = List.replicate (N k) (mkA k)) ∧ (Z i).take j = List.replicate j (mkA i) ∧ wr.ownsRow base 22 1 (.slice (some ⟨gl, 0, none⟩) m cl) m ((List.range m).map X)) (fun x _ => N i - (intOf x).toNat)
      case atStart => exact ⟨0, Z, Nat.zero_le _, rfl, HM.out, HZ.out, by simp, HL.out⟩
      case round =>
        obtain ⟨j, Z', hj, rfl, hMa, hZ, hT, hLs⟩ := hrel
        have HM' : Hid (Many w wr base m X (fun _ => 0) mkA X N Z') := hMa
        have HZ' : Hid (∀ k, k < i → Z' k = List.replicate (N k) (mkA k)) := hZ
        have HT' : Hid ((Z' i).take j = List.replicate j (mkA i)) := hT
        have HL' : Hid (wr.ownsRow base 22 1 (.slice (some ⟨gl, 0, none⟩) m cl) m ((List.range m).map X)) := hLs
        clear hMa hZ hT hLs HM HZ HL hc
        by_cases hjl : j < N i
        · have hoX := HM'.out.own i hlt
          rw [HX.out] at hoX
          obtain ⟨g, cap, hv, -, -⟩ := lx_some hoX (by omega)
          have hv2 : ax = some ⟨g, 0, none⟩ := by simp at hv; exact hv.1
          subst hv2
          have hzl : (Z' i).length = N i := by have := hoX.1; omega
          have cj : ∃ z, wr.cell? ⟨g, j, none⟩ = some z := ⟨_, by rw [hoX.cellAt j (by omega)]; exact List.getElem?_eq_getElem (by omega)⟩
          obtain ⟨z, hcz⟩ := cj
          have fz := hoX.frozenAt j
          have hj0 : (0 : Int) ≤ (j : Int) := by omega
          have hj1 : (j : Int) < (N i : Int) := by omega
          have R : Hid (Many w (wr.setCell ⟨g, j, none⟩ (mkA i)) base m X (fun _ => 0) mkA X N (upd Z' i ((Z' i).set j (mkA i))) ∧ (wr.setCell ⟨g, j, none⟩ (mkA i)).ownsRow base 22 1 (.slice (some ⟨gl, 0, none⟩) m cl) m ((List.range m).map X)) :=
            ⟨HM'.out.store hlt HX.out j (mkA i), Many.rows HL'.out hoX (by decide) (hoX.stored j (mkA i)).2⟩
          have hT2 : Hid (((upd Z' i ((Z' i).set j (mkA i))) i).take (j + 1) = List.replicate (j + 1) (mkA i)) := by unfold Hid; rw [upd_same]; exact take_set (by omega) HT'.out
          have hZ2 : Hid (∀ k, k < i → (upd Z' i ((Z' i).set j (mkA i))) k = List.replicate (N k) (mkA k)) := fun k hk => by rw [upd_ne _ _ (by omega)]; exact HZ'.out k hk
          clear hoX hv
          go_wp2
          go_roundw
          case rel => exact ⟨j + 1, _, by omega, by go_num, R.out.1, hZ2.out, hT2.out, R.out.2⟩
          case measure => simp [intOf]; omega
        · obtain rfl : j = N i := by omega
          have hZ2 : Hid (∀ k, k < i + 1 → Z' k = List.replicate (N k) (mkA k)) := fun k hk => by
            by_cases e : k = i
            · subst e
              have h1 := HT'.out
              rw [List.take_of_length_le (by have := (HM'.out.own k hlt).1; omega)] at h1
              exact h1
            · exact HZ'.out k (by omega)
          go_wp2
          go_roundw
          case rel => exact ⟨i + 1, Z', by omega, by go_num, HM'.out, hZ2.out, HL'.out⟩
          case measure => simp [intOf]; omega
    · obtain rfl : i = m := by omega
      obtain ⟨wm, hwm⟩ : ∃ wm : World, wm = wr := ⟨_, rfl⟩
      subst hwm
      have HM1 : Hid (Many w wm base i X N mkA X N Z) := HM.out.marked HZ.out
      clear HM hM hL
      obtain ⟨i0, hi0, hz0, hz1, hz2⟩ := info_parts info22
      have hzz := HM1.out.sz
      go_wp2_with (at_make; refine wpList_make_full _ rfl (.tmp 36) (.tmp 36) 26 rfl base 22 i0 (.slice none 0 0) 1 Tryz.underlying26 hi0 hz0 hz1 .i64 .i64 i i i rfl rfl rfl rfl (by rw [hz2]; omega) (by unfold maxLen; omega) (by omega) ?_)
      intro w2 hown hgrow
      have B2 : Below wm.heap.size wm w2 := ⟨hgrow.os, hgrow.tape, hgrow.output, hgrow.size, fun k hk => hgrow.block k hk (by simp)⟩
      have HM2 : Hid (Many w w2 base i X N mkA X N Z) := HM1.out.below B2
      have HL2 : Hid (w2.ownsRow base 22 1 (.slice al i cl) i ((List.range i).map X)) := own_keep HL.out B2
      have HF2 : Hid (w2.ownsRow base 22 1 (.slice (some ⟨wm.heap.size, 0, none⟩) i i) i (fillL i 0 X)) := by
        unfold Hid
        rw [fillL_zero, ← toList_madeCells_one]
        simpa [Value.cells] using hown
      have HGL : Hid (∀ g, (Value.slice al i cl).ownBlock = some g → g < wm.heap.size) := fun g hg => (HL.out.lt g hg).2
      clear hown hgrow B2 HM1 HL hi0 hz0 hz1 hz2
      go_wp2_with fail
      go_loopw [40] (fun x wq => ∃ (k : Nat) (G : Nat → Value) (M : Nat → Nat) (Z : Nat → List Value), k ≤ i ∧ x = .int .i64 k ∧ Many w wq base i X N mkA G M Z ∧ (∀ q, q < k → M q = N q + 8 ∧ Z q = List.replicate (N q) (mkA q) ++ List.replicate 8 (mkB q)) ∧ (∀ q, k ≤ q → q < i → G q = X q ∧ M q = N q ∧ Z q = List.replicate (N q) (mkA q)) ∧ wq.ownsRow base 22 1 (.slice al i cl) i ((List.range i).map X) ∧ wq.ownsRow base 22 1 (.slice (some ⟨wm.heap.size, 0, none⟩) i i) i (fillL i k G)) (fun x _ => i - (intOf x).toNat)
      case atStart => exact ⟨0, X, N, Z, Nat.zero_le _, rfl, HM2.out, fun q hq => by omega, fun q _ hq => ⟨rfl, rfl, HZ.out q hq⟩, HL2.out, HF2.out⟩
      case round =>
        obtain ⟨k, G, M, Zk, hk, rfl, hMa, hA1, hA2, hLs, hF⟩ := hrel
        obtain ⟨wk, hwk⟩ : ∃ wk : World, wk = wr := ⟨_, rfl⟩
        subst hwk
        have HM3 : Hid (Many w wk base i X N mkA G M Zk) := hMa
        have HA1 : Hid (∀ q, q < k → M q = N q + 8 ∧ Zk q = List.replicate (N q) (mkA q) ++ List.replicate 8 (mkB q)) := hA1
        have HA2 : Hid (∀ q, k ≤ q → q < i → G q = X q ∧ M q = N q ∧ Zk q = List.replicate (N q) (mkA q)) := hA2
        have HL3 : Hid (wk.ownsRow base 22 1 (.slice al i cl) i ((List.range i).map X)) := hLs
        have HF3 : Hid (wk.ownsRow base 22 1 (.slice (some ⟨wm.heap.size, 0, none⟩) i i) i (fillL i k G)) := hF
        clear hMa hA1 hA2 hLs hF HM2 HL2 HF2
        by_cases hlk : k < i
        · obtain ⟨gl, cl', hal, -, -⟩ := own_some HL3.out (by omega)
          have hal2 : al = some ⟨gl, 0, none⟩ := by simp at hal; exact hal.1
          subst hal2
          clear hal
          obtain ⟨e1, e2, e3⟩ := HA2.out k (Nat.le_refl _) hlk
          obtain ⟨ax, cx, hX⟩ := lx_shape (HM3.out.own k hlk)
          have hX2 : X k = .slice ax (N k) cx := by rw [← e1, hX, e2]
          have hc : wk.cell? ⟨gl, k, none⟩ = some (.slice ax (N k) cx) := by
            rw [HL3.out.cellAt k (by omega), ← hX2]; simp [hlk]
          have HX : Hid (X k = .slice ax (N k) cx) := hX2
          have HE : Hid (G k = .slice ax (N k) cx ∧ M k = N k ∧ Zk k = List.replicate (N k) (mkA k)) := ⟨by rw [e1]; exact hX2, e2, e3⟩
          have hNk := hN.out k hlk
          have hk0 : (0 : Int) ≤ (k : Int) := by omega
          have hk1 : (k : Int) < (i : Int) := by omega
          clear hX hX2 e1 e2 e3
          go_wp2_with fail
          go_loopw [9, 46] (fun g x wq => ∃ (t : Nat) (G' : Nat → Value) (M' : Nat → Nat) (Z' : Nat → List Value), t ≤ 8 ∧ x = .int .i64 t ∧ g = G' k ∧ Many w wq base i X N mkA G' M' Z' ∧ M' k = N k + t ∧ Z' k = List.replicate (N k) (mkA k) ++ List.replicate t (mkB k) ∧ (∀ q, q ≠ k → G' q = G q ∧ M' q = M q ∧ Z' q = Zk q) ∧ wq.ownsRow base 22 1 (.slice (some ⟨gl, 0, none⟩) i cl) i ((List.range i).map X) ∧ wq.ownsRow base 22 1 (.slice (some ⟨wm.heap.size, 0, none⟩) i i) i (fillL i k G)) (fun _ x _ => 8 - (intOf x).toNat)
          case atStart => exact ⟨0, G, M, Zk, by omega, rfl, HE.out.1.symm, HM3.out, (by have := HE.out.2.1; omega), (by rw [HE.out.2.2]; simp), fun q _ => ⟨rfl, rfl, rfl⟩, HL3.out, HF3.out⟩
          case round =>
            obtain ⟨t, G', M', Z', ht, rfl, rfl, hMa, hM', hZ', hO', hLs, hF⟩ := hrel
            have HM' : Hid (Many w wr base i X N mkA G' M' Z') := hMa
            have HQ : Hid (M' k = N k + t ∧ Z' k = List.replicate (N k) (mkA k) ++ List.replicate t (mkB k)) := ⟨hM', hZ'⟩
            have HO' : Hid (∀ q, q ≠ k → G' q = G q ∧ M' q = M q ∧ Z' q = Zk q) := hO'
            have HL' : Hid (wr.ownsRow base 22 1 (.slice (some ⟨gl, 0, none⟩) i cl) i ((List.range i).map X)) := hLs
            have HF' : Hid (wr.ownsRow base 22 1 (.slice (some ⟨wm.heap.size, 0, none⟩) i i) i (fillL i k G)) := hF
            clear hMa hM' hZ' hO' hLs hF HM3 HL3 HF3 hc
            by_cases ht8 : t < 8
            · have hsz := HM'.out.sz
              have hown0 := HM'.out.own k hlk
              rw [HQ.out.1, HQ.out.2] at hown0
              have HW0 : Hid (Lx wr base (G' k) (N k + t) (List.replicate (N k) (mkA k) ++ List.replicate t (mkB k))) := hown0
              clear hown0
              have HGk : ∃ vg, vg = G' k := ⟨_, rfl⟩
              obtain ⟨vg, hvg⟩ := HGk
              have HV : Hid (vg = G' k) := hvg
              rw [← hvg] at HW0
              rw [← hvg]
              clear hvg
              go_wp2_with (at_builtin; refine append_keep rfl (.tmp 48) (.tmp 52) rfl base vg (N k + t) (List.replicate (N k) (mkA k) ++ List.replicate t (mkB k)) rfl (HW0.out.alloc _) ⟨wr.heap.size, 0, none⟩ 1 1 [.int .u8 (((k : Int) + 100) % 256)] rfl rfl (by omega) ?qd2 ?qd3 ?qd4 ?qd5 ?_)
              case qd2 => exact fun k u hk => lit_cells wr _ 5 k u hk
              case qd3 => intro u hu; simp at hu; rw [hu]; rfl
              case qd4 => omega
              case qd5 => simp; omega
              intro v' w5 hown hgrow hp hf
              have R : Hid (Many w w5 base i X N mkA (upd G' k v') (upd M' k (N k + t + 1)) (upd Z' k (List.replicate (N k) (mkA k) ++ (List.replicate t (mkB k) ++ [.int .u8 (((k : Int) + 100) % 256)]))) ∧ ∀ (base' e size n' : Nat) (v : Value) (xs : List Value), e ≠ 5 → wr.ownsRow base' e size v n' xs → w5.ownsRow base' e size v n' xs) := HM'.out.app hlk HV.out HQ.out.1 (by omega) hown hgrow hp hf
              have R2 : Hid ((upd Z' k (List.replicate (N k) (mkA k) ++ (List.replicate t (mkB k) ++ [.int .u8 (((k : Int) + 100) % 256)]))) k = List.replicate (N k) (mkA k) ++ List.replicate (t + 1) (mkB k)) := by
                unfold Hid; rw [upd_same, List.replicate_succ']; rfl
              clear hown hgrow hp hf HW0
              go_wp2
              go_roundw
              case rel => exact ⟨t + 1, _, _, _, by omega, by go_num, (upd_same _ _ _).symm, R.out.1, upd_same _ _ _, R2.out, fun q hq => by rw [upd_ne _ _ hq, upd_ne _ _ hq, upd_ne _ _ hq]; exact HO'.out q hq, R.out.2 _ _ _ _ _ _ (by decide) HL'.out, R.out.2 _ _ _ _ _ _ (by decide) HF'.out⟩
              case measure => simp [intOf]; omega
            · obtain rfl : t = 8 := by omega
              obtain ⟨ag, cg, hG⟩ := lx_shape (HM'.out.own k hlk)
              rw [HQ.out.1] at hG
              have hcM : wr.cell? ⟨wm.heap.size, k, none⟩ = some (.slice none 0 0) := by
                rw [HF'.out.cellAt k (by omega)]; simp [fillL, hlk]
              have hfM := HF'.out.frozenAt k
              have hgl : gl < wm.heap.size := HGL.out gl rfl
              have R : Hid (Many w (wr.setCell ⟨wm.heap.size, k, none⟩ (G' k)) base i X N mkA G' M' Z' ∧ (wr.setCell ⟨wm.heap.size, k, none⟩ (G' k)).ownsRow base 22 1 (.slice (some ⟨wm.heap.size, 0, none⟩) i i) i (fillL i (k + 1) G') ∧ (wr.setCell ⟨wm.heap.size, k, none⟩ (G' k)).ownsRow base 22 1 (.slice (some ⟨gl, 0, none⟩) i cl) i ((List.range i).map X)) := by
                obtain ⟨h1, h2, h3⟩ := HM'.out.put hzz HF'.out k (G' k)
                exact ⟨h1, by rw [← fillL_set i k G G' hlk (fun q hq => (HO'.out q (by omega)).1)]; exact h2, h3 _ _ _ _ _ _ (by simp [Value.ownBlock]; omega) HL'.out⟩
              have R1 : Hid (∀ q, q < k + 1 → M' q = N q + 8 ∧ Z' q = List.replicate (N q) (mkA q) ++ List.replicate 8 (mkB q)) := fun q hq => by
                by_cases e : q = k
                · subst e; exact HQ.out
                · obtain ⟨_, e2, e3⟩ := HO'.out q e
                  rw [e2, e3]; exact HA1.out q (by omega)
              have R2 : Hid (∀ q, k + 1 ≤ q → q < i → G' q = X q ∧ M' q = N q ∧ Z' q = List.replicate (N q) (mkA q)) := fun q hq hqi => by
                obtain ⟨e1, e2, e3⟩ := HO'.out q (by omega)
                rw [e1, e2, e3]; exact HA2.out q (by omega) hqi
              have HR : Hid (G' k = .slice ag (N k + 8) cg) := hG
              rw [hG]
              clear hG
              rw [HR.out] at R
              go_wp2
              go_roundw
              case rel => exact ⟨k + 1, G', M', Z', by omega, by go_num, R.out.1, R1.out, R2.out, R.out.2.2, R.out.2.1⟩
              case measure => simp [intOf]; omega
        · obtain rfl : k = i := by omega
          clear HA2
          go_wp2_with fail
          go_loopw [62] (fun x wq => ∃ (a : Nat) (G : Nat → Value) (M : Nat → Nat) (Z : Nat → List Value), a ≤ k ∧ x = .int .i64 a ∧ Many w wq base k X N mkA G M Z ∧ (∀ q, q < a → M q = N q + 68 ∧ Z q = List.replicate (N q) (mkA q) ++ List.replicate 68 (mkB q)) ∧ (∀ q, a ≤ q → q < k → M q = N q + 8 ∧ Z q = List.replicate (N q) (mkA q) ++ List.replicate 8 (mkB q)) ∧ wq.ownsRow base 22 1 (.slice al k cl) k ((List.range k).map X) ∧ wq.ownsRow base 22 1 (.slice (some ⟨wm.heap.size, 0, none⟩) k k) k (fillL k k G)) (fun x _ => k - (intOf x).toNat)
          case atStart => exact ⟨0, G, M, Zk, Nat.zero_le _, rfl, HM3.out, fun q hq => by omega, fun q _ hq => HA1.out q hq, HL3.out, HF3.out⟩
          case round =>
            obtain ⟨a, G1, M1, Z1, ha, rfl, hMa, hA1, hA2, hLs, hF⟩ := hrel
            obtain ⟨wa, hwa⟩ : ∃ wa : World, wa = wr := ⟨_, rfl⟩
            subst hwa
            have HM4 : Hid (Many w wa base k X N mkA G1 M1 Z1) := hMa
            have HB1 : Hid (∀ q, q < a → M1 q = N q + 68 ∧ Z1 q = List.replicate (N q) (mkA q) ++ List.replicate 68 (mkB q)) := hA1
            have HB2 : Hid (∀ q, a ≤ q → q < k → M1 q = N q + 8 ∧ Z1 q = List.replicate (N q) (mkA q) ++ List.replicate 8 (mkB q)) := hA2
            have HL4 : Hid (wa.ownsRow base 22 1 (.slice al k cl) k ((List.range k).map X)) := hLs
            have HF4 : Hid (wa.ownsRow base 22 1 (.slice (some ⟨wm.heap.size, 0, none⟩) k k) k (fillL k k G1)) := hF
            clear hMa hA1 hA2 hLs hF HM3 HL3 HF3 HA1
            by_cases hlk2 : a < k
            · obtain ⟨e2, e3⟩ := HB2.out a (Nat.le_refl _) hlk2
              obtain ⟨ag, cg, hG⟩ := lx_shape (HM4.out.own a hlk2)
              rw [e2] at hG
              have hc : wa.cell? ⟨wm.heap.size, a, none⟩ = some (.slice ag (N a + 8) cg) := by
                rw [HF4.out.cellAt a (by omega), fillL_at k k a G1 hlk2 hlk2, hG]
              have HE : Hid (G1 a = .slice ag (N a + 8) cg ∧ M1 a = N a + 8 ∧ Z1 a = List.replicate (N a) (mkA a) ++ List.replicate 8 (mkB a)) := ⟨hG, e2, e3⟩
              have hNa := hN.out a hlk2
              have ha0 : (0 : Int) ≤ (a : Int) := by omega
              have ha1 : (a : Int) < (k : Int) := by omega
              clear hG e2 e3
              go_wp2_with fail
              go_loopw [11, 67] (fun g x wq => ∃ (t : Nat) (G' : Nat → Value) (M' : Nat → Nat) (Z' : Nat → List Value), t ≤ 20 ∧ x = .int .i64 t ∧ g = G' a ∧ Many w wq base k X N mkA G' M' Z' ∧ M' a = N a + (8 + 3 * t) ∧ Z' a = List.replicate (N a) (mkA a) ++ List.replicate (8 + 3 * t) (mkB a) ∧ (∀ q, q ≠ a → G' q = G1 q ∧ M' q = M1 q ∧ Z' q = Z1 q) ∧ wq.ownsRow base 22 1 (.slice al k cl) k ((List.range k).map X) ∧ wq.ownsRow base 22 1 (.slice (some ⟨wm.heap.size, 0, none⟩) k k) k (fillL k k G1)) (fun _ x _ => 20 - (intOf x).toNat)
              case atStart => exact ⟨0, G1, M1, Z1, by omega, rfl, HE.out.1.symm, HM4.out, (by have := HE.out.2.1; omega), HE.out.2.2, fun q _ => ⟨rfl, rfl, rfl⟩, HL4.out, HF4.out⟩
              case round =>
                obtain ⟨t, G', M', Z', ht, rfl, rfl, hMa, hM', hZ', hO', hLs, hF⟩ := hrel
                have HM' : Hid (Many w wr base k X N mkA G' M' Z') := hMa
                have HQ : Hid (M' a = N a + (8 + 3 * t) ∧ Z' a = List.replicate (N a) (mkA a) ++ List.replicate (8 + 3 * t) (mkB a)) := ⟨hM', hZ'⟩
                have HO' : Hid (∀ q, q ≠ a → G' q = G1 q ∧ M' q = M1 q ∧ Z' q = Z1 q) := hO'
                have HL' : Hid (wr.ownsRow base 22 1 (.slice al k cl) k ((List.range k).map X)) := hLs
                have HF' : Hid (wr.ownsRow base 22 1 (.slice (some ⟨wm.heap.size, 0, none⟩) k k) k (fillL k k G1)) := hF
                clear hMa hM' hZ' hO' hLs hF HM4 HL4 HF4 hc
                by_cases ht8 : t < 20
                · have hsz := HM'.out.sz
                  have hown0 := HM'.out.own a hlk2
                  rw [HQ.out.1, HQ.out.2] at hown0
                  have HW0 : Hid (Lx wr base (G' a) (N a + (8 + 3 * t)) (List.replicate (N a) (mkA a) ++ List.replicate (8 + 3 * t) (mkB a))) := hown0
                  clear hown0
                  obtain ⟨vg, hvg⟩ : ∃ vg, vg = G' a := ⟨_, rfl⟩
                  have HV : Hid (vg = G' a) := hvg
                  rw [← hvg] at HW0
                  rw [← hvg]
                  clear hvg
                  go_wp2_with (at_builtin; refine append_keep rfl (.tmp 69) (.tmp 79) rfl base vg (N a + (8 + 3 * t)) (List.replicate (N a) (mkA a) ++ List.replicate (8 + 3 * t) (mkB a)) rfl (HW0.out.alloc _) ⟨wr.heap.size, 0, none⟩ 3 3 [.int .u8 (((a : Int) + 100) % 256), .int .u8 (((a : Int) + 100) % 256), .int .u8 (((a : Int) + 100) % 256)] rfl rfl (by omega) ?qe2 ?qe3 ?qe4 ?qe5 ?_)
                  case qe2 => exact fun k u hk => lit_cells wr _ 5 k u hk
                  case qe3 => intro u hu; simp at hu; rw [hu]; rfl
                  case qe4 => omega
                  case qe5 => simp; omega
                  intro v' w5 hown hgrow hp hf
                  have R : Hid (Many w w5 base k X N mkA (upd G' a v') (upd M' a (N a + (8 + 3 * t) + 3)) (upd Z' a (List.replicate (N a) (mkA a) ++ List.replicate (8 + 3 * t + 3) (mkB a))) ∧ ∀ (base' e size n' : Nat) (v : Value) (xs : List Value), e ≠ 5 → wr.ownsRow base' e size v n' xs → w5.ownsRow base' e size v n' xs) := by
                    refine HM'.out.app hlk2 HV.out HQ.out.1 (by omega) ?_ hgrow hp hf
                    have e : List.replicate (8 + 3 * t + 3) (mkB a) = List.replicate (8 + 3 * t) (mkB a) ++ [.int .u8 (((a : Int) + 100) % 256), .int .u8 (((a : Int) + 100) % 256), .int .u8 (((a : Int) + 100) % 256)] := by
                      rw [← List.replicate_append_replicate]; rfl
                    rw [e, ← List.append_assoc]
                    first | exact hown | simpa [List.append_assoc] using hown
                  have R2 : Hid ((upd M' a (N a + (8 + 3 * t) + 3)) a = N a + (8 + 3 * (t + 1)) ∧ (upd Z' a (List.replicate (N a) (mkA a) ++ List.replicate (8 + 3 * t + 3) (mkB a))) a = List.replicate (N a) (mkA a) ++ List.replicate (8 + 3 * (t + 1)) (mkB a)) := by
                    unfold Hid; rw [upd_same, upd_same]; exact ⟨by omega, by rw [show 8 + 3 * (t + 1) = 8 + 3 * t + 3 from by omega]⟩
                  clear hown hgrow hp hf HW0
                  go_wp2
                  go_roundw
                  case rel => exact ⟨t + 1, _, _, _, by omega, by go_num, (upd_same _ _ _).symm, R.out.1, R2.out.1, R2.out.2, fun q hq => by rw [upd_ne _ _ hq, upd_ne _ _ hq, upd_ne _ _ hq]; exact HO'.out q hq, R.out.2 _ _ _ _ _ _ (by decide) HL'.out, R.out.2 _ _ _ _ _ _ (by decide) HF'.out⟩
                  case measure => simp [intOf]; omega
                · obtain rfl : t = 20 := by omega
                  obtain ⟨ah, ch, hG⟩ := lx_shape (HM'.out.own a hlk2)
                  rw [HQ.out.1] at hG
                  have hcM : ∃ z, wr.cell? ⟨wm.heap.size, a, none⟩ = some z := ⟨_, by rw [HF'.out.cellAt a (by omega)]; exact fillL_at k k a G1 hlk2 hlk2⟩
                  obtain ⟨z, hcz⟩ := hcM
                  have hfM := HF'.out.frozenAt a
                  have R : Hid (Many w (wr.setCell ⟨wm.heap.size, a, none⟩ (G' a)) base k X N mkA G' M' Z' ∧ (wr.setCell ⟨wm.heap.size, a, none⟩ (G' a)).ownsRow base 22 1 (.slice (some ⟨wm.heap.size, 0, none⟩) k k) k (fillL k k G') ∧ (wr.setCell ⟨wm.heap.size, a, none⟩ (G' a)).ownsRow base 22 1 (.slice al k cl) k ((List.range k).map X)) := by
                    obtain ⟨h1, h2, h3⟩ := HM'.out.put hzz HF'.out a (G' a)
                    exact ⟨h1, by rw [← fillL_again k a G1 G' hlk2 (fun q hq => (HO'.out q hq).1)]; exact h2, h3 _ _ _ _ _ _ (fun e => absurd (HGL.out _ e) (by omega)) HL'.out⟩
                  have R1 : Hid (∀ q, q < a + 1 → M' q = N q + 68 ∧ Z' q = List.replicate (N q) (mkA q) ++ List.replicate 68 (mkB q)) := fun q hq => by
                    by_cases e : q = a
                    · subst e; exact HQ.out
                    · obtain ⟨_, e2, e3⟩ := HO'.out q e
                      rw [e2, e3]; exact HB1.out q (by omega)
                  have R2 : Hid (∀ q, a + 1 ≤ q → q < k → M' q = N q + 8 ∧ Z' q = List.replicate (N q) (mkA q) ++ List.replicate 8 (mkB q)) := fun q hq hqi => by
                    obtain ⟨e1, e2, e3⟩ := HO'.out q (by omega)
                    rw [e2, e3]; exact HB2.out q (by omega) hqi
                  have HR : Hid (G' a = .slice ah (N a + (8 + 3 * 20)) ch) := hG
                  rw [hG]
                  clear hG
                  rw [HR.out] at R
                  go_wp2
                  go_roundw
                  case rel => exact ⟨a + 1, G', M', Z', by omega, by go_num, R.out.1, R1.out, R2.out, R.out.2.2, R.out.2.1⟩
                  case measure => simp [intOf]; omega
            · obtain rfl : a = k := by omega
              clear HB2
              go_wp2_with fail
              go_loop [89] (fun x => ∃ b : Nat, b ≤ a ∧ x = .int .i64 b) (fun x => a - (intOf x).toNat)
              case atStart => exact ⟨0, Nat.zero_le _, rfl⟩
              case round =>
                obtain ⟨b, hb, rfl⟩ := hrel
                by_cases hlb : b < a
                · obtain ⟨gl, cl', hal, -, -⟩ := own_some HL4.out (by omega)
                  have hal2 : al = some ⟨gl, 0, none⟩ := by simp at hal; exact hal.1
                  subst hal2
                  clear hal
                  obtain ⟨ax, cx, hXb⟩ : ∃ ax cx, X b = .slice ax (N b) cx := by
                    rcases HXs.out b hlb with ⟨h1, h2⟩ | ⟨g, c, h1⟩
                    · exact ⟨_, _, by rw [h1, h2]⟩
                    · exact ⟨_, _, h1⟩
                  obtain ⟨e2, e3⟩ := HB1.out b hlb
                  obtain ⟨gg, cg, hG, -, -⟩ := lx_some (HM4.out.own b hlb) (by omega)
                  rw [e2] at hG
                  have hown := HM4.out.own b hlb
                  rw [hG, e2, e3] at hown
                  have HW : Hid (Lx wa base (.slice (some ⟨gg, 0, none⟩) (N b + 68) cg) (N b + 68) (List.replicate (N b) (mkA b) ++ List.replicate 68 (mkB b))) := hown
                  have hc : wa.cell? ⟨gl, b, none⟩ = some (.slice ax (N b) cx) := by
                    rw [HL4.out.cellAt b (by omega), ← hXb]; simp [hlb]
                  have hd : wa.cell? ⟨wm.heap.size, b, none⟩ = some (.slice (some ⟨gg, 0, none⟩) (N b + 68) cg) := by
                    rw [HF4.out.cellAt b (by omega), fillL_at a a b G1 hlb hlb, hG]
                  have HX : Hid (X b = .slice ax (N b) cx) := hXb
                  have hNb := hN.out b hlb
                  have hb0 : (0 : Int) ≤ (b : Int) := by omega
                  have hb1 : (b : Int) < (a : Int) := by omega
                  clear hG e2 e3 hown hXb
                  go_wp2_with fail
                  go_loop [99] (fun x => ∃ j : Nat, j ≤ N b + 68 ∧ x = .int .i64 j) (fun x => N b + 68 - (intOf x).toNat)
                  case atStart => exact ⟨0, Nat.zero_le _, rfl⟩
                  case round =>
                    obtain ⟨j, hj, rfl⟩ := hrel
                    by_cases hjl : j < N b + 68
                    · have hj0 : (0 : Int) ≤ (j : Int) := by omega
                      have hj1 : (j : Int) < (N b : Int) + 68 := by omega
                      by_cases hjn : j < N b
                      · have hx : wa.cell? ⟨gg, j, none⟩ = some (.int .u8 ((b : Int) % 256)) := by
                          rw [HW.out.cellAt j (by omega), List.getElem?_append_left (by simpa using hjn)]; simp [hjn, mkA]
                        obtain ⟨g, hg1, hg2⟩ := HM4.out.px b hlb j hjn
                        have hax : ax = some ⟨g, 0, none⟩ := by
                          rcases HXs.out b hlb with ⟨h1, h2⟩ | ⟨g', c', h1⟩
                          · omega
                          · have h3 := HX.out
                            rw [h1] at h3 hg1
                            simp [Value.ownBlock] at hg1
                            subst hg1
                            simp at h3
                            exact h3.1.symm
                        subst hax
                        have hy : wa.cell? ⟨g, j, none⟩ = some (.int .u8 ((b : Int) % 256)) := hg2
                        have hjn' : (j : Int) < (N b : Int) := by omega
                        clear hg1 hg2
                        go_wp2
                        go_round
                        case rel => exact ⟨j + 1, by omega, by go_num⟩
                        case measure => simp [intOf]; omega
                      · have hx : wa.cell? ⟨gg, j, none⟩ = some (.int .u8 (((b : Int) + 100) % 256)) := by
                          rw [HW.out.cellAt j (by omega), List.getElem?_append_right (by simp; omega), List.length_replicate, List.getElem?_replicate, if_pos (by omega)]; rfl
                        have hjn' : (N b : Int) ≤ (j : Int) := by omega
                        go_wp2
                        go_round
                        case rel => exact ⟨j + 1, by omega, by go_num⟩
                        case measure => simp [intOf]; omega
                    · obtain rfl : j = N b + 68 := by omega
                      go_wp2
                      go_round
                      case rel => exact ⟨b + 1, by omega, by go_num⟩
                      case measure => simp [intOf]; omega
                · go_wp2
                  go_ret
                  exact ⟨rfl, HM4.out.ee.1, HM4.out.ee.2.1, HM4.out.ee.2.2, HM4.out.sz, HM4.out.only⟩
end Go.Proofs.YtppefcnopkmhbaaGreatDoor

namespace Go.Proofs.YtppefcnopkmhbaaGreatDoor
open Go.RowKit

set_option maxRecDepth 100000 in
set_option maxHeartbeats 800000 in
theorem llent_any (ao : Option Addr) (n c : Nat) (l : List UInt8) (w : World) (hbig : n ≤ 140737488351232) (HT : Hid (Tx w ao n c l)) :
    Calls Tryz.prog 8 #[.slice ao n c] w fun e w' => ∃ g cap, e = .returned (.slice (some ⟨g, 0, none⟩) n cap) ∧ w'.ownsRow w.heap.size 5 1 (.slice (some ⟨g, 0, none⟩) (n + 2) cap) (n + 2) (bv l ++ mk2) ∧ Below w.heap.size w w' := by
  obtain ⟨i0, hi, hz0, hz1, hz2⟩ := info_parts info5
  have hlen := Hid.mk' HT.out.len
  go_enter Tryz.func8, Tryz.ntmps8
  go_wp2_with (at_builtin; refine append_srv rfl (.tmp 3) (.tmp 4) 22 rfl w.heap.size 5 i0 (.int .u8 0) 1 1 Tryz.underlying22 hi hz0 hz1 hz2 rfl (by decide) (.slice (some ⟨w.heap.size, 0, none⟩) 0 0) 0 [] rfl (World.ownsRow_made w #[] 0 (Nat.le_refl _) (Nat.zero_le _) rfl) (.slice ao n c) n (bv l) rfl ?qc2 ?qc1 ?qc3 ?qc4 ?qc5 ?qc6 ?_)
  case qc1 => rw [bv_length, hlen.out]; omega
  case qc2 => exact (HT.out.keep (bAlloc (Below.refl _ _) _)).srv
  case qc3 => exact bv_one l
  case qc4 => unfold maxLen; omega
  case qc5 => omega
  case qc6 => simp
  intro v1 w1 hown hgrow _
  have HW1 : Hid (w1.ownsRow w.heap.size 5 1 v1 n (bv l)) := by unfold Hid; simpa using hown
  have L1 : Hid (Below w.heap.size w w1) := ((Below.refl _ w).alloc (Nat.le_refl _) _).grown hgrow (by simp) (by intro k hk; simp [Value.ownBlock] at hk; omega)
  clear hown hgrow
  go_wp2_with (at_builtin; refine append_srv rfl (.tmp 5) (.tmp 6) 22 rfl w.heap.size 5 i0 (.int .u8 0) 1 1 Tryz.underlying22 hi hz0 hz1 hz2 rfl (by decide) v1 n (bv l) rfl (HW1.out.alloc _) (.slice (some ⟨w1.heap.size, 0, none⟩) 2 2) 2 [.int .u8 77, .int .u8 78] rfl (.inr ⟨⟨w1.heap.size, 0, none⟩, 2, rfl, fun k u hk => lit_cells w1 _ 5 k u hk⟩) rfl ?qd3 ?qd4 ?qd5 ?qd6 ?_)
  case qd3 => intro u hu; simp at hu; rcases hu with rfl | rfl <;> rfl
  case qd4 => unfold maxLen; omega
  case qd5 => omega
  case qd6 => have := L1.out.size; simp; omega
  intro v2 w2 hown hgrow _
  have L2 : Hid (Below w.heap.size w w2) := (bAlloc L1.out _).grown hgrow (by have := L1.out.size; simp; omega) (fun k hk => (HW1.out.lt k hk).1)
  obtain ⟨g, cap, rfl, hc1, hc2⟩ := own_some hown (by omega)
  have HW2 : Hid (w2.ownsRow w.heap.size 5 1 (.slice (some ⟨g, 0, none⟩) (n + 2) cap) (n + 2) (bv l ++ mk2)) := hown
  have hx0 : (0 : Int) ≤ (n : Int) := by omega
  have hx1 : (n : Int) ≤ (cap : Int) := by omega
  have hx2 : ¬ cap = 0 := by omega
  clear hown hgrow hc2
  go_wp2
  go_ret
  exact ⟨_, _, rfl, HW2.out, L2.out⟩

set_option maxRecDepth 100000 in
set_option maxHeartbeats 800000 in
theorem lwhole_any (g cap : Nat) (ao : Option Addr) (n c base : Nat) (l : List UInt8) (w : World) (hbig : n ≤ 140737488351232) (HT : Hid (Tx w ao n c l)) (hW : Hid (w.ownsRow base 5 1 (.slice (some ⟨g, 0, none⟩) (n + 2) cap) (n + 2) (bv l ++ mk2))) :
    Calls Tryz.prog 13 #[.slice (some ⟨g, 0, none⟩) n cap, .slice ao n c] w fun e w' => e = .returned (.bool true) ∧ w' = w := by
  have hl := HT.out.len
  obtain ⟨g', cap', hv, hc1, hc2⟩ := own_some hW.out (by omega)
  have hcap : n + 2 ≤ cap := by simp at hv; omega
  have v1 := conv_tx (lent_tx hl (by omega) hW.out)
  have v2 := conv_tx HT.out
  have q0 : w.cell? ⟨g, n, none⟩ = some (.int .u8 77) := by
    rw [hW.out.cellAt n (by omega), List.getElem?_append_right (by rw [bv_length]; omega), bv_length, hl]; simp [mk2]
  have q1 : w.cell? ⟨g, n + 1, none⟩ = some (.int .u8 78) := by
    rw [hW.out.cellAt (n + 1) (by omega), List.getElem?_append_right (by rw [bv_length]; omega), bv_length, hl]; simp [mk2]
  have x0 : (0 : Int) ≤ (n : Int) + 2 := by omega
  have x1 : (n : Int) + 2 ≤ (cap : Int) := by omega
  have x2 : ¬ cap = 0 := by omega
  have x3 : (n : Int) ≤ 140737488351232 := by omega
  clear hv hc1 hc2 hl
  go_enter Tryz.func13, Tryz.ntmps13
  go_wp2
  go_ret
  exact ⟨rfl, rfl⟩
end Go.Proofs.YtppefcnopkmhbaaGreatDoor

namespace Go.Proofs.YtppefcnopkmhbaaGreatDoor
open Go.RowKit

set_option maxRecDepth 8000
theorem one_list (W : World) (v : Value) : (W.alloc (.cells #[v] 22)).ownsRow W.heap.size 22 1 (.slice (some ⟨W.heap.size, 0, none⟩) 1 1) 1 [v] :=
  ⟨rfl, .inr ⟨W.heap.size, 1, _, rfl, Nat.le_refl _, Blk.new W 22 _, Nat.le_refl _, by unfold maxLen; omega, rfl, rfl⟩⟩
theorem tes_take {F : List Er} {i : Nat} {r : Er} (h : F[i]? = some r) : tes (F.take (i + 1)) = tes (F.take i) ++ [(.slice r.p1 r.o r.c1, r.O), (.slice r.p2 r.n r.c2, r.N)] := by
  rw [List.take_add_one, h]
  exact tes_snoc _ _
set_option maxHeartbeats 8000000 in
theorem lists_any (v tv : Value) (F : List Er) (x : Ef) (w : World) (H : Hid (Efr w v tv F x)) (hn : F.length ≤ 2097152) :
    Calls Tryz.prog 12 #[efV v tv x] w fun e w' => ∃ lv, e = .returned lv ∧ w'.ownsRow w.heap.size 22 1 lv (1 + F.length * 2) (tv :: (tes F).map (·.1)) ∧ Below w.heap.size w w' := by
  obtain ⟨ao, c, rfl, hZ⟩ := H.out.es
  obtain ⟨to', d, rfl, hT⟩ := H.out.tx
  have Z := Hid.mk' hZ
  obtain ⟨en, hen⟩ : ∃ en, F.length = en := ⟨_, rfl⟩
  have HEN := Hid.mk' hen
  rw [hen] at hn ⊢
  obtain ⟨xes, cur, set, lin, txt, how, typ⟩ := x
  obtain ⟨tn, htn⟩ : ∃ tn, txt.length = tn := ⟨_, rfl⟩
  unfold efV
  dsimp only
  rw [htn]
  obtain ⟨i22, hi22, hz22, hs22, hb22⟩ := info_parts info22
  obtain ⟨W1, hW1⟩ : ∃ W, w.alloc (.cells #[.slice ao en c, .int .i64 cur, .bool set, .bool lin, .slice to' tn d, .int .i64 how, .bool typ] 35) = W := ⟨_, rfl⟩
  obtain ⟨B, hB⟩ : ∃ b, w.heap.size = b := ⟨_, rfl⟩
  have J1 : Hid (Blk W1 B 35 (ef7 (.slice ao en c) cur set lin (.slice to' tn d) how typ)) := by unfold Hid; rw [← hW1, ← hB]; exact Blk.new w 35 _
  have L1 : Hid (Below w.heap.size w W1) := by unfold Hid; rw [← hW1]; exact bAlloc (Below.refl _ _) _
  clear hZ hT H hen htn
  go_enter Tryz.func12, Tryz.ntmps12
  go_upto_region 1 with fail
  clear hW1 hB
  obtain ⟨x0, x1, x2, x3, x4, x5, x6⟩ := ef_cells J1.out
  go_upto_region 2 with fail
  clear x0 x1 x2 x3 x4 x5 x6
  have hbb := bAlloc (Below.refl W1.heap.size W1) (.cells #[.slice to' tn d] 22)
  have O2 := Hid.mk' (own_lower (one_list W1 (.slice to' tn d)) L1.out.size)
  have J2 := Hid.mk' (J1.out.keep hbb)
  have L2 := Hid.mk' (bT L1.out hbb)
  obtain ⟨q1, hq1⟩ : ∃ q, W1.heap.size = q := ⟨_, rfl⟩
  rw [hq1] at O2 ⊢
  clear hbb hq1
  generalize W1.alloc (.cells #[.slice to' tn d] 22) = w2 at *
  obtain ⟨x0, x1, x2, x3, x4, x5, x6⟩ := ef_cells J2.out
  go_wp2_with fail
  clear x0 x1 x2 x3 x4 x5 x6
  go_loopg [3, 13] en (fun M x3 x13 wx => ∃ (i : Nat) (lv : Value), x3 = lv ∧ x13 = .int .i64 (i : Int) ∧ i + M = en ∧ Hid (wx.ownsRow w.heap.size 22 1 lv (1 + i * 2) (.slice to' tn d :: (tes (F.take i)).map (·.1))) ∧ Hid (Below w.heap.size w wx))
  case atStart => exact ⟨0, _, rfl, rfl, by omega, O2.out, L2.out⟩
  case round =>
    obtain ⟨i, lv, rfl, rfl, him, OO, LL⟩ := hrel
    clear O2 L2 J1 J2
    by_cases hi : i < en
    · obtain ⟨go, rfl⟩ : ∃ g, gk = g + 1 := ⟨gk - 1, by omega⟩
      have hi' : (i : Int) < (en : Int) := by omega
      have hi0 : (0 : Int) ≤ (i : Int) := by omega
      obtain ⟨r, hr⟩ : ∃ r, F[i]? = some r := ⟨_, List.getElem?_eq_getElem (by have := HEN.out; omega)⟩
      obtain ⟨g, o, rfl, h3⟩ := Z.out.row.ed3 hr
      have h4 := h3.keep LL.out
      have HTE := Hid.mk' (tes_take hr)
      obtain ⟨ra, rp1, ro, rc1, rO, rp2, rn, rc2, rN⟩ := r
      dsimp only at h4 HTE
      have t0 := h4.e0
      have t1 := h4.e1
      have t2 := h4.e2
      clear hr h3 h4
      obtain ⟨w1, hw1⟩ : ∃ w1, w1 = wr.alloc (.cells #[.int .i64 ra, .slice rp1 ro rc1, .slice rp2 rn rc2] 65) := ⟨_, rfl⟩
      have B1 : Hid (Below wr.heap.size wr w1) := by unfold Hid; rw [hw1]; exact bAlloc (Below.refl _ _) _
      have Y0 : Hid (Blk w1 wr.heap.size 65 #[.int .i64 ra, .slice rp1 ro rc1, .slice rp2 rn rc2]) := by unfold Hid; rw [hw1]; exact Blk.new _ _ _
      go_upto_region 5 with fail
      rw [← hw1]
      clear hw1 t0 t1 t2
      have y0 : w1.cell? ⟨wr.heap.size, 0, none⟩ = some (.int .i64 ra) := Y0.out.cell rfl
      have y1 : w1.cell? ⟨wr.heap.size, 1, none⟩ = some (.slice rp1 ro rc1) := Y0.out.cell rfl
      have y2 : w1.cell? ⟨wr.heap.size, 2, none⟩ = some (.slice rp2 rn rc2) := Y0.out.cell rfl
      have OO1 := Hid.mk' (own_keep OO.out B1.out)
      have hsz := (bT LL.out B1.out).size
      have hw9 : IntKind.i64.wrap ((i : Int) + 1) = ((i + 1 : Nat) : Int) := by rw [IntKind.wrap_i64]; omega
      go_wp2_with (at_builtin; refine append_srv rfl (.tmp 17) (.tmp 22) 26 rfl w.heap.size 22 i22 (.slice none 0 0) 1 24 Tryz.underlying26 hi22 hz22 hs22 hb22 rfl (by decide) u3 (1 + i * 2) (.slice to' tn d :: (tes (F.take i)).map (·.1)) rfl (OO1.out.alloc _) (.slice (some ⟨w1.heap.size, 0, none⟩) 2 2) 2 [.slice rp1 ro rc1, .slice rp2 rn rc2] rfl (.inr ⟨⟨w1.heap.size, 0, none⟩, 2, rfl, fun j t hj => lit_cells w1 _ 22 j t hj⟩) rfl ?r1 ?r2 ?r3 ?r4 ?_)
      case r1 => intro u hu; simp at hu; rcases hu with rfl | rfl <;> rfl
      case r2 => unfold maxLen; omega
      case r3 => omega
      case r4 => rw [World.size_alloc]; omega
      intro v2 w3 hown2 hgrow2 hfr2
      have O3 : Hid (w3.ownsRow w.heap.size 22 1 v2 (1 + (i + 1) * 2) (.slice to' tn d :: (tes (F.take (i + 1))).map (·.1))) := by
        unfold Hid
        rw [HTE.out, List.map_append, show 1 + (i + 1) * 2 = 1 + i * 2 + 2 by omega]
        exact hown2
      have hbq := bAlloc (bT LL.out B1.out) (.cells #[.slice rp1 ro rc1, .slice rp2 rn rc2] 22)
      have L3 := Hid.mk' (hbq.grown hgrow2 hbq.size (fun k hk => (OO.out.lt k hk).1))
      clear hown2 hgrow2 hfr2 hbq OO OO1 y0 y1 y2 hsz
      go_wp2
      go_roundg go
      case measure => omega
      case rel => exact ⟨i + 1, v2, rfl, by go_num, by omega, O3.out, L3.out⟩
    · have hi' : ¬ (i : Int) < (en : Int) := by omega
      obtain rfl : i = en := by omega
      have O9 : Hid (wr.ownsRow w.heap.size 22 1 u3 (1 + i * 2) (.slice to' tn d :: (tes F).map (·.1))) := by
        have := OO.out
        rw [List.take_of_length_le (by have := HEN.out; omega)] at this
        exact this
      clear OO
      go_wp2
      go_ret
      exact ⟨_, rfl, O9.out, LL.out⟩
end Go.Proofs.YtppefcnopkmhbaaGreatDoor
