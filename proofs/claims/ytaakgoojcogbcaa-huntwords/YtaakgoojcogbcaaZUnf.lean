/- hunt.Under, of every text. -/
import Derived.Test.YtaakgoojcogbcaaZQuf
import Derived.Test.YtaakgoojcogbcaaXh
namespace Go.Proofs.Ytaakgoojcogbcaa
open Go.RowKit
theorem spc_iwb {b : UInt8} (h : iwb b = true) : spc b = false := by
  have h9 : ∀ n : Fin 256, iwb (UInt8.ofNat n.val) = true → spc (UInt8.ofNat n.val) = false := by decide +kernel
  have := h9 ⟨b.toNat, b.toNat_lt⟩
  simp only [UInt8.ofNat_toNat] at this
  exact this h
theorem qt_plain : ∀ l : List UInt8, (∀ x ∈ l, spc x = false) → qt l = l
  | [], _ => rfl
  | b :: l, h => by
    have hb : q1 b = [b] := by unfold q1; rw [h b (by simp)]; rfl
    rw [qt_cons, hb, qt_plain l (fun x hx => h x (by simp [hx]))]
    rfl
theorem wlist_plain {t : List UInt8} {k s x : Nat} (h : WdS t k s x) (hx : x ≤ t.length) : qt (wlist t s x) = wlist t s x := by
  refine qt_plain _ fun y hy => ?_
  obtain ⟨j, hj, e⟩ := List.mem_iff_getElem.1 hy
  unfold wlist at e hj
  rw [List.length_take, List.length_drop] at hj
  rw [List.getElem_take, List.getElem_drop] at e
  have h1 := h.all (s + j) (by omega) (by omega)
  unfold iwt at h1
  rw [at8_eq (by omega)] at h1
  rw [← e]
  exact spc_iwb h1
set_option maxRecDepth 8000 in
set_option maxHeartbeats 8000000 in
theorem under_fit (ao : Option Addr) (n c : Nat) (k : Int) (t : List UInt8) (w : World) (hn : n ≤ 140737488351232) (HT : Hid (Tx w ao n c t)) :
    Calls Try.prog 24 #[.slice ao n c, .int .i64 k] w fun e w' => UnP t k w e w' := by
  have hlen := HT.out.len
  have CI := Hid.mk' (hisPlace_any ao n c k w)
  by_cases hp : 0 ≤ k ∧ k ≤ n
  · rw [decide_eq_true hp] at CI
    obtain ⟨k, rfl⟩ : ∃ j : Nat, k = (j : Int) := ⟨k.toNat, by omega⟩
    have CW := Hid.mk' (wordFrom_any ao n c k t w (by omega) HT)
    have HP : Hid (0 ≤ (k : Int) ∧ (k : Int) ≤ t.length) := by unfold Hid; omega
    clear hp
    go_enter Try.func24, Try.ntmps24
    go_wp2_with fail
    refine CI.out.mono ?_
    rintro e w' ⟨rfl, hw⟩
    subst hw
    go_wp2_with fail
    refine CW.out.mono ?_
    rintro e w1 ⟨hb1, hres⟩
    have B1 := Hid.mk' hb1
    clear hb1 CI CW
    rcases hres with ⟨hN, rfl⟩ | ⟨s, x, av, cv, hS, rfl, htx⟩
    · have HN := Hid.mk' hN
      clear hN
      go_wp2
      go_ret2
      exact ⟨B1.out, .inr (.inl ⟨HP.out, by rw [Int.toNat_natCast]; exact HN.out, rfl⟩)⟩
    · have HS := Hid.mk' hS
      have hxs : s < x := by obtain ⟨a, _, _, _, _, h5, h6⟩ := hS.a; omega
      have hxl : x ≤ n := by have := hS.hi; have := en_le (t := t) (s := k) (by have := HP.out; omega); omega
      have HX := Hid.mk' htx
      clear hS htx
      have hne : ¬ (((x - s : Nat) : Int) = 0) := by omega
      have hne' : ((((x - s : Nat) : Int)) == 0) = false := by simpa using hne
      have kc := fun (w : World) (C : Array Value) (n c : Nat) => Lib.run_convert_bytes_const (P := Try.prog) w 22 5 C n c Try.underlying22 Try.underlying5
      obtain ⟨WL, HWL⟩ : ∃ WL, Hid (wlist t s x = WL) := ⟨_, rfl⟩
      have hWL : WL.length = x - s := by rw [← HWL.out]; unfold wlist; rw [List.length_take, List.length_drop]; omega
      have hqt : WL.length ≤ (qt WL).length ∧ (qt WL).length ≤ WL.length := by rw [← HWL.out, wlist_plain HS.out (by omega)]; exact ⟨Nat.le_refl _, Nat.le_refl _⟩
      have HX2 : Hid (Tx w1 av (x - s) cv WL) := by rw [← HWL.out]; exact HX.out
      clear HX
      go_wp2_with fail
      refine (quote_fit _ av (x - s) cv WL (by omega) (HX2.out.keep (bAlloc (Below.refl _ _) _))).mono ?_
      rintro e w2 ⟨vq, rfl, hoq, hbq⟩
      have U2 := Hid.mk' (bT (bAlloc (Below.refl _ w1) (.cells #[.int .u8 92, .int .u8 60] 5 (2, 3))) hbq)
      have P0 : Hid (Tx w2 (some ⟨w1.heap.size, 0, none⟩) 2 2 [92, 60]) := (tx_lit (l := [92, 60]) (heap_alloc_new w1 (.cells #[.int .u8 92, .int .u8 60] 5 (2, 3))) rfl (by decide)).keep hbq
      obtain ⟨aq, cq, eq, htq⟩ := own_tx rfl (by omega) hoq
      subst eq
      have PQ := Hid.mk' htq
      clear hoq htq hbq HX2
      go_wp2_with fail
      have U3 := Hid.mk' (bAlloc (Below.refl _ w2) (.cells #[.int .u8 92, .int .u8 62] 5 (2, 3)))
      have P2 : Hid (Tx (w2.alloc (.cells #[.int .u8 92, .int .u8 62] 5 (2, 3))) (some ⟨w2.heap.size, 0, none⟩) 2 2 [92, 62]) := tx_lit (l := [92, 62]) (heap_alloc_new w2 (.cells #[.int .u8 92, .int .u8 62] 5 (2, 3))) rfl (by decide)
      have K4 : Hid (Blk ((w2.alloc (.cells #[.int .u8 92, .int .u8 62] 5 (2, 3))).alloc (.cells #[.slice (some ⟨w1.heap.size, 0, none⟩) 2 2, .slice aq (qt WL).length cq, .slice (some ⟨w2.heap.size, 0, none⟩) 2 2] 22)) (w2.heap.size + 1) 22 #[.slice (some ⟨w1.heap.size, 0, none⟩) 2 2, .slice aq (qt WL).length cq, .slice (some ⟨w2.heap.size, 0, none⟩) 2 2]) := by
        have := Blk.new (w2.alloc (.cells #[.int .u8 92, .int .u8 62] 5 (2, 3))) 22 #[.slice (some ⟨w1.heap.size, 0, none⟩) 2 2, .slice aq (qt WL).length cq, .slice (some ⟨w2.heap.size, 0, none⟩) 2 2]
        rw [World.size_alloc] at this
        exact this
      have U4 := Hid.mk' (bAlloc (Below.refl _ (w2.alloc (.cells #[.int .u8 92, .int .u8 62] 5 (2, 3)))) (.cells #[.slice (some ⟨w1.heap.size, 0, none⟩) 2 2, .slice aq (qt WL).length cq, .slice (some ⟨w2.heap.size, 0, none⟩) 2 2] 22))
      have T0 := Hid.mk' ((P0.out.keep U3.out).keep U4.out)
      have T1 := Hid.mk' ((PQ.out.keep U3.out).keep U4.out)
      have T2 := Hid.mk' (P2.out.keep U4.out)
      have B4 := Hid.mk' (bT B1.out (bT U2.out (bT U3.out U4.out)))
      generalize (w2.alloc (.cells #[.int .u8 92, .int .u8 62] 5 (2, 3))).alloc (.cells #[.slice (some ⟨w1.heap.size, 0, none⟩) 2 2, .slice aq (qt WL).length cq, .slice (some ⟨w2.heap.size, 0, none⟩) 2 2] 22) = w4 at *
      clear P0 PQ P2 U2 U3 U4 kc
      have hjl : (j3 (fun k => if k = 0 then [92, 60] else if k = 1 then qt WL else [92, 62]) 3) = upat WL := rfl
      have hul : (upat WL).length = (qt WL).length + 4 := by unfold upat; simp
      have CC := Hid.mk' (concat_any w4 (w2.heap.size + 1) 3 (fun k => if k = 0 then some ⟨w1.heap.size, 0, none⟩ else if k = 1 then aq else some ⟨w2.heap.size, 0, none⟩) (fun k => if k = 0 then 2 else if k = 1 then cq else 2) (fun k => if k = 0 then [92, 60] else if k = 1 then qt WL else [92, 62]) (by omega) (by rw [hjl]; omega) (by rw [hjl]; omega)
        (fun k hk => by
          match k, hk with
          | 0, _ => exact K4.out.cell (j := 0) rfl
          | 1, _ => exact K4.out.cell (j := 1) rfl
          | 2, _ => exact K4.out.cell (j := 2) rfl)
        (fun k hk => by
          match k, hk with
          | 0, _ => exact T0.out
          | 1, _ => exact T1.out
          | 2, _ => exact T2.out))
      rw [hjl] at CC
      refine CC.out.mono ?_
      rintro e w5 ⟨v5, rfl, ho5, hb5⟩
      have B5 := Hid.mk' (bT B4.out hb5)
      have O5 := Hid.mk' (own_lower ho5 B4.out.size)
      obtain ⟨a5, c5, e5⟩ := own_shape ho5
      subst e5
      obtain ⟨U, HU⟩ : ∃ U, Hid ((upat WL).length = U) := ⟨_, rfl⟩
      rw [HU.out] at O5 ⊢
      clear hb5 ho5 CC T0 T1 T2 K4 hjl hul hqt hWL
      by_cases h256 : 256 < U
      · have h256' : decide ((256 : Int) < (U : Int)) = true := decide_eq_true (by omega)
        have HR := Hid.mk' h256
        clear h256
        go_wp2
        go_ret2
        exact ⟨B5.out, .inr (.inr ⟨HP.out, s, x, by rw [Int.toNat_natCast]; exact HS.out, .inl ⟨by rw [HWL.out, HU.out]; exact HR.out, rfl⟩⟩)⟩
      · have h256' : decide ((256 : Int) < (U : Int)) = false := decide_eq_false (by omega)
        have HR : Hid (U ≤ 256) := by unfold Hid; omega
        clear h256
        go_wp2
        go_ret2
        exact ⟨B5.out, .inr (.inr ⟨HP.out, s, x, by rw [Int.toNat_natCast]; exact HS.out, .inr ⟨by rw [HWL.out, HU.out]; exact HR.out, _, rfl, by rw [HWL.out, HU.out]; exact O5.out⟩⟩)⟩
  · rw [decide_eq_false hp] at CI
    have HP : Hid (¬ (0 ≤ k ∧ k ≤ t.length)) := by unfold Hid; omega
    clear hp
    go_enter Try.func24, Try.ntmps24
    go_wp2_with fail
    refine CI.out.mono ?_
    rintro e w' ⟨rfl, hw⟩
    subst hw
    go_wp2
    go_ret2
    exact ⟨Below.refl _ _, .inl ⟨HP.out, rfl⟩⟩
end Go.Proofs.Ytaakgoojcogbcaa
