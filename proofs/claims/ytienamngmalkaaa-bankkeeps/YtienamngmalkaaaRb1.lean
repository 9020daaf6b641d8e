/- quoinref15.behind. -/
import Derived.Test.YtienamngmalkaaaRb0
namespace Go.Proofs.Ytienamngmalkaaa
open Go.RowKit

set_option maxRecDepth 8000
set_option maxHeartbeats 4000000 in
theorem rb_no (lo lr sr : Bool) (oa ra : Option Addr) (on oc rn rc : Nat) (o r : List UInt8) (w : World) (HO : Hid (Tx w oa on oc o)) (HR : Hid (Tx w ra rn rc r)) (_hon : on ≤ 140737488351232) (_hrn : rn ≤ 65536) :
    Calls Try.prog 27 #[.agg #[.bool false, .bool lo, .slice oa on oc], .agg #[.bool sr, .bool lr, .slice ra rn rc]] w fun e w' => ∃ a' n' c', e = .returned (.agg #[.bool true, .bool lr, .slice a' n' c']) ∧ Tx w' a' n' c' r ∧ Below w.heap.size w w' := by
  have hlo := Hid.mk' HO.out.len
  have hlr := Hid.mk' HR.out.len
  generalize hW3 : ((w.alloc (.cells #[.bool false, .bool lo, .slice oa on oc] 24)).alloc (.cells #[.bool sr, .bool lr, .slice ra rn rc] 24)).alloc (.cells #[.bool false, .bool false, .slice none 0 0] 24) = W3
  have hz3 : W3.heap.size = w.heap.size + 1 + 1 + 1 := by subst hW3; simp
  have BE : Hid (Below w.heap.size w W3) := by subst hW3; exact bAlloc (bAlloc (bAlloc (Below.refl _ _) _) _) _
  have B1 : Hid (Blk W3 w.heap.size 24 #[.bool false, .bool lo, .slice oa on oc]) := by subst hW3; exact ((Blk.new w 24 _).keep (bAlloc (Below.refl _ _) _)).keep (bAlloc (Below.refl _ _) _)
  have B2 : Hid (Blk W3 (w.heap.size + 1) 24 #[.bool sr, .bool lr, .slice ra rn rc]) := by
    subst hW3
    have := (Blk.new (w.alloc (.cells #[.bool false, .bool lo, .slice oa on oc] 24)) 24 #[.bool sr, .bool lr, .slice ra rn rc]).keep (bAlloc (Below.refl _ _) (.cells #[.bool false, .bool false, .slice none 0 0] 24))
    rwa [World.size_alloc] at this
  have B3 : Hid (Blk W3 (w.heap.size + 1 + 1) 24 #[.bool false, .bool false, .slice none 0 0]) := by
    subst hW3
    have := Blk.new ((w.alloc (.cells #[.bool false, .bool lo, .slice oa on oc] 24)).alloc (.cells #[.bool sr, .bool lr, .slice ra rn rc] 24)) 24 #[.bool false, .bool false, .slice none 0 0]
    rwa [World.size_alloc, World.size_alloc] at this
  have o0 : W3.cell? ⟨w.heap.size, 0, none⟩ = some (.bool false) := B1.out.cell rfl
  have o1 : W3.cell? ⟨w.heap.size, 1, none⟩ = some (.bool lo) := B1.out.cell rfl
  have o2 : W3.cell? ⟨w.heap.size, 2, none⟩ = some (.slice oa on oc) := B1.out.cell rfl
  have r1 : W3.cell? ⟨w.heap.size + 1, 1, none⟩ = some (.bool lr) := B2.out.cell rfl
  have r2 : W3.cell? ⟨w.heap.size + 1, 2, none⟩ = some (.slice ra rn rc) := B2.out.cell rfl
  have HC : Hid (∀ W, Below W3.heap.size W3 W → W.cell? ⟨w.heap.size, 2, none⟩ = some (.slice oa on oc) ∧ W.cell? ⟨w.heap.size + 1, 2, none⟩ = some (.slice ra rn rc)) := fun W hW => ⟨(B1.out.keep hW).cell rfl, (B2.out.keep hW).cell rfl⟩
  have q0 : W3.cell? ⟨w.heap.size + 1 + 1, 0, none⟩ = some (.bool false) := B3.out.cell rfl
  have q1 : W3.cell? ⟨w.heap.size + 1 + 1, 1, none⟩ = some (.bool false) := B3.out.cell rfl
  have q2 : W3.cell? ⟨w.heap.size + 1 + 1, 2, none⟩ = some (.slice none 0 0) := B3.out.cell rfl
  have g0 := B3.out.frozen 0
  have g1 := B3.out.frozen 1
  have g2 := B3.out.frozen 2
  have hlv := ld24 (((B3.out.set (j := 0) (.bool true)).set (j := 1) (.bool lr)).set (j := 2) (.slice ra rn rc))
  have BF := bset (j := 2) (bset (j := 1) (bset (j := 0) BE.out (.bool true) (show w.heap.size ≤ w.heap.size + 1 + 1 by omega)) (.bool lr) (show w.heap.size ≤ w.heap.size + 1 + 1 by omega)) (.slice ra rn rc) (show w.heap.size ≤ w.heap.size + 1 + 1 by omega)
  have BG := Hid.mk' BF
  clear BF
  go_enter Try.func27, Try.ntmps27
  go_wp2
  exact bodyPost_ret (v := .agg #[.bool true, .bool lr, .slice ra rn rc]) (by simp [results, Try.results27, asAddr, hlv]) rfl ⟨_, _, _, rfl, HR.out.keep BG.out, BG.out⟩
set_option maxHeartbeats 4000000 in
theorem rb_plain (sr : Bool) (oa ra : Option Addr) (on oc rn rc : Nat) (o r : List UInt8) (w : World) (HO : Hid (Tx w oa on oc o)) (HR : Hid (Tx w ra rn rc r)) (hon : on ≤ 140737488351232) (hrn : rn ≤ 65536) :
    Calls Try.prog 27 #[.agg #[.bool true, .bool false, .slice oa on oc], .agg #[.bool sr, .bool false, .slice ra rn rc]] w fun e w' => ∃ a' n' c', e = .returned (.agg #[.bool true, .bool false, .slice a' n' c']) ∧ Tx w' a' n' c' (bht false false o r) ∧ Below w.heap.size w w' := by
  have hlo := Hid.mk' HO.out.len
  have hlr := Hid.mk' HR.out.len
  generalize hW3 : ((w.alloc (.cells #[.bool true, .bool false, .slice oa on oc] 24)).alloc (.cells #[.bool sr, .bool false, .slice ra rn rc] 24)).alloc (.cells #[.bool false, .bool false, .slice none 0 0] 24) = W3
  have hz3 : W3.heap.size = w.heap.size + 1 + 1 + 1 := by subst hW3; simp
  have BE : Hid (Below w.heap.size w W3) := by subst hW3; exact bAlloc (bAlloc (bAlloc (Below.refl _ _) _) _) _
  have B1 : Hid (Blk W3 w.heap.size 24 #[.bool true, .bool false, .slice oa on oc]) := by subst hW3; exact ((Blk.new w 24 _).keep (bAlloc (Below.refl _ _) _)).keep (bAlloc (Below.refl _ _) _)
  have B2 : Hid (Blk W3 (w.heap.size + 1) 24 #[.bool sr, .bool false, .slice ra rn rc]) := by
    subst hW3
    have := (Blk.new (w.alloc (.cells #[.bool true, .bool false, .slice oa on oc] 24)) 24 #[.bool sr, .bool false, .slice ra rn rc]).keep (bAlloc (Below.refl _ _) (.cells #[.bool false, .bool false, .slice none 0 0] 24))
    rwa [World.size_alloc] at this
  have B3 : Hid (Blk W3 (w.heap.size + 1 + 1) 24 #[.bool false, .bool false, .slice none 0 0]) := by
    subst hW3
    have := Blk.new ((w.alloc (.cells #[.bool true, .bool false, .slice oa on oc] 24)).alloc (.cells #[.bool sr, .bool false, .slice ra rn rc] 24)) 24 #[.bool false, .bool false, .slice none 0 0]
    rwa [World.size_alloc, World.size_alloc] at this
  have o0 : W3.cell? ⟨w.heap.size, 0, none⟩ = some (.bool true) := B1.out.cell rfl
  have o1 : W3.cell? ⟨w.heap.size, 1, none⟩ = some (.bool false) := B1.out.cell rfl
  have o2 : W3.cell? ⟨w.heap.size, 2, none⟩ = some (.slice oa on oc) := B1.out.cell rfl
  have r1 : W3.cell? ⟨w.heap.size + 1, 1, none⟩ = some (.bool false) := B2.out.cell rfl
  have r2 : W3.cell? ⟨w.heap.size + 1, 2, none⟩ = some (.slice ra rn rc) := B2.out.cell rfl
  have HC : Hid (∀ W, Below W3.heap.size W3 W → W.cell? ⟨w.heap.size, 2, none⟩ = some (.slice oa on oc) ∧ W.cell? ⟨w.heap.size + 1, 2, none⟩ = some (.slice ra rn rc)) := fun W hW => ⟨(B1.out.keep hW).cell rfl, (B2.out.keep hW).cell rfl⟩
  have OW : Hid (((W3.alloc (.cells #[] 5)).drew).ownsRow (w.heap.size + 1 + 1 + 1) 5 1 (.slice (some ⟨w.heap.size + 1 + 1 + 1, 0, none⟩) 0 0) 0 []) := by have := own0 W3; rw [hz3] at this; exact this
  have BW : Hid (Below W3.heap.size W3 ((W3.alloc (.cells #[] 5)).drew)) := (bAlloc (Below.refl _ _) _).drew
  have TW := Hid.mk' ((HO.out.keep (bT BE.out BW.out)).srv)
  have hsz : w.heap.size + 1 + 1 + 1 ≤ ((W3.alloc (.cells #[] 5)).drew).heap.size := by have := BW.out.size; omega
  go_enter Try.func27, Try.ntmps27
  go_wp2_with fail
  clear hW3 o0 o1 r1
  go_region_held3 (fun w' => w'.cell? ⟨w.heap.size, 2, none⟩ = some (.slice oa on oc) ∧ w'.cell? ⟨w.heap.size + 1, 2, none⟩ = some (.slice ra rn rc)) (first | with_reducible assumption | simp [*, go_sem])
    (first | (refine step_bg (by rfl) (.tmp 21) (.tmp 23) (by rfl) (w.heap.size + 1 + 1 + 1) (.slice (some ⟨w.heap.size + 1 + 1 + 1, 0, none⟩) 0 0) 0 [] (by rfl) OW.out (.slice oa on oc) on (bv o) (by rfl) TW.out (by rw [bv_length]; exact hlo.out) (bv_one _) (by omega) (.inl (by omega)) hsz ?_; intro v4 w4 hown4 hgrow4 _; (have B4 : Hid (Below W3.heap.size W3 w4) := BW.out.grown hgrow4 (by omega) (fun k hk => by simp [Value.ownBlock] at hk; omega)); (have O4 : Hid (w4.ownsRow (w.heap.size + 1 + 1 + 1) 5 1 v4 on (bv o)) := by unfold Hid; simpa using hown4); clear hown4 hgrow4 o2 r2; (obtain ⟨a4, c4, hv4⟩ := own_shape O4.out); subst hv4; (obtain ⟨o2, r2⟩ := HC.out w4 B4.out); (have T4 := Hid.mk' ((HR.out.keep (bT BE.out B4.out)).srv)); (have hs4 : w.heap.size + 1 + 1 + 1 ≤ w4.heap.size := by have := B4.out.size; omega))
           | (refine step_bg (by rfl) (.tmp 24) (.tmp 26) (by rfl) (w.heap.size + 1 + 1 + 1) (.slice a4 on c4) on (bv o) (by rfl) O4.out (.slice ra rn rc) rn (bv r) (by rfl) T4.out (by rw [bv_length]; exact hlr.out) (bv_one _) (by omega) (.inl (by omega)) hs4 ?_; intro v5 w5 hown5 hgrow5 _; (have BF : Hid (Below W3.heap.size W3 w5) := B4.out.grown hgrow5 (by omega) (fun k hk => by have := (O4.out.lt k hk).1; omega)); (have O5 : Hid (w5.ownsRow (w.heap.size + 1 + 1 + 1) 5 1 v5 (on + rn) (bv (bht false false o r))) := by unfold Hid; rw [show bht false false o r = o ++ r from rfl, bv_append]; exact hown5); clear hown5 hgrow5 o2 r2; (obtain ⟨a5, c5, hv5⟩ := own_shape O5.out); subst hv5; (obtain ⟨o2, r2⟩ := HC.out w5 BF.out); (have K3 := Hid.mk' (B3.out.keep BF.out)); (have q0 : w5.cell? ⟨w.heap.size + 1 + 1, 0, none⟩ = some (.bool false) := K3.out.cell rfl); (have q1 : w5.cell? ⟨w.heap.size + 1 + 1, 1, none⟩ = some (.bool false) := K3.out.cell rfl); (have q2 : w5.cell? ⟨w.heap.size + 1 + 1, 2, none⟩ = some (.slice none 0 0) := K3.out.cell rfl); (have g0 := K3.out.frozen 0); (have g1 := K3.out.frozen 1); (have g2 := K3.out.frozen 2))
           | fail)
  have hlv := ld24 (((K3.out.set (j := 0) (.bool true)).set (j := 1) (.bool false)).set (j := 2) (.slice a5 (on + rn) c5))
  have OZ := Hid.mk' (own_set (j := 2) (u := .slice a5 (on + rn) c5) (own_set (j := 1) (u := .bool false) (own_set (j := 0) (u := .bool true) O5.out (show w.heap.size + 1 + 1 < w.heap.size + 1 + 1 + 1 by omega)) (show w.heap.size + 1 + 1 < w.heap.size + 1 + 1 + 1 by omega)) (show w.heap.size + 1 + 1 < w.heap.size + 1 + 1 + 1 by omega))
  obtain ⟨a9, c9, hv9, hT9⟩ := own_txl OZ.out (by have := hlo.out; have := hlr.out; omega)
  obtain ⟨ea, ec⟩ : a5 = a9 ∧ c5 = c9 := by simpa using hv9
  subst ea ec
  have TZ := Hid.mk' hT9
  have BZ := Hid.mk' (bT BE.out BF.out)
  clear hv9 hT9 OZ
  go_wp2
  exact bodyPost_ret (v := .agg #[.bool true, .bool false, .slice a5 (on + rn) c5]) (by simp [results, Try.results27, asAddr, hlv]) rfl ⟨_, _, _, rfl, TZ.out, bset (bset (bset BZ.out _ (by omega)) _ (by omega)) _ (by omega)⟩
set_option maxHeartbeats 4000000 in
theorem rb_lines (lo lr sr : Bool) (oa ra : Option Addr) (on oc rn rc : Nat) (o r : List UInt8) (w : World) (HO : Hid (Tx w oa on oc o)) (HR : Hid (Tx w ra rn rc r)) (hon : on ≤ 140737488351232) (hrn : rn ≤ 65536) (hl : (lo || lr) = true) :
    Calls Try.prog 27 #[.agg #[.bool true, .bool lo, .slice oa on oc], .agg #[.bool sr, .bool lr, .slice ra rn rc]] w fun e w' => ∃ a' n' c', e = .returned (.agg #[.bool true, .bool true, .slice a' n' c']) ∧ Tx w' a' n' c' (bht lo lr o r) ∧ Below w.heap.size w w' := by
  have hlo := Hid.mk' HO.out.len
  have hlr := Hid.mk' HR.out.len
  generalize hW3 : ((w.alloc (.cells #[.bool true, .bool lo, .slice oa on oc] 24)).alloc (.cells #[.bool sr, .bool lr, .slice ra rn rc] 24)).alloc (.cells #[.bool false, .bool false, .slice none 0 0] 24) = W3
  have hz3 : W3.heap.size = w.heap.size + 1 + 1 + 1 := by subst hW3; simp
  have BE : Hid (Below w.heap.size w W3) := by subst hW3; exact bAlloc (bAlloc (bAlloc (Below.refl _ _) _) _) _
  have B1 : Hid (Blk W3 w.heap.size 24 #[.bool true, .bool lo, .slice oa on oc]) := by subst hW3; exact ((Blk.new w 24 _).keep (bAlloc (Below.refl _ _) _)).keep (bAlloc (Below.refl _ _) _)
  have B2 : Hid (Blk W3 (w.heap.size + 1) 24 #[.bool sr, .bool lr, .slice ra rn rc]) := by
    subst hW3
    have := (Blk.new (w.alloc (.cells #[.bool true, .bool lo, .slice oa on oc] 24)) 24 #[.bool sr, .bool lr, .slice ra rn rc]).keep (bAlloc (Below.refl _ _) (.cells #[.bool false, .bool false, .slice none 0 0] 24))
    rwa [World.size_alloc] at this
  have B3 : Hid (Blk W3 (w.heap.size + 1 + 1) 24 #[.bool false, .bool false, .slice none 0 0]) := by
    subst hW3
    have := Blk.new ((w.alloc (.cells #[.bool true, .bool lo, .slice oa on oc] 24)).alloc (.cells #[.bool sr, .bool lr, .slice ra rn rc] 24)) 24 #[.bool false, .bool false, .slice none 0 0]
    rwa [World.size_alloc, World.size_alloc] at this
  have o0 : W3.cell? ⟨w.heap.size, 0, none⟩ = some (.bool true) := B1.out.cell rfl
  have o1 : W3.cell? ⟨w.heap.size, 1, none⟩ = some (.bool lo) := B1.out.cell rfl
  have o2 : W3.cell? ⟨w.heap.size, 2, none⟩ = some (.slice oa on oc) := B1.out.cell rfl
  have r1 : W3.cell? ⟨w.heap.size + 1, 1, none⟩ = some (.bool lr) := B2.out.cell rfl
  have r2 : W3.cell? ⟨w.heap.size + 1, 2, none⟩ = some (.slice ra rn rc) := B2.out.cell rfl
  have HC : Hid (∀ W, Below W3.heap.size W3 W → W.cell? ⟨w.heap.size, 2, none⟩ = some (.slice oa on oc) ∧ W.cell? ⟨w.heap.size + 1, 2, none⟩ = some (.slice ra rn rc)) := fun W hW => ⟨(B1.out.keep hW).cell rfl, (B2.out.keep hW).cell rfl⟩
  have hbe : bht lo lr o r = wle (wle o ++ r) := by unfold bht; rw [hl]; rfl
  rw [hbe]
  clear hbe
  have C1 := Hid.mk' (ended_any oa on oc o W3.drew (HO.out.keep BE.out.drew) (by omega))
  have hlw : (wle o).length ≤ on + 1 := by have := wle_len o; have := hlo.out; omega
  have hlww : (wle (wle o ++ r)).length ≤ on + rn + 2 := by have h1 := wle_len (wle o ++ r); rw [List.length_append] at h1; have := hlr.out; omega
  generalize hxo : wle o = xo at *
  clear hxo
  obtain ⟨m6, hm6⟩ : ∃ m, m = xo.length := ⟨_, rfl⟩
  rw [← hm6] at C1 hlw
  obtain ⟨m8, hm8⟩ : ∃ m, m = (wle (xo ++ r)).length := ⟨_, rfl⟩
  rw [← hm8] at hlww
  have HM := Hid.mk' (And.intro hm6 hm8)
  clear hm6 hm8
  cases lo
  · have hl2 : lr = true := by simpa using hl
    subst hl2
    clear hl
    go_enter Try.func27, Try.ntmps27
    go_wp2_with fail
    clear hW3 o0 o1 r1
    go_region_held3 (fun w' => w'.cell? ⟨w.heap.size, 2, none⟩ = some (.slice oa on oc) ∧ w'.cell? ⟨w.heap.size + 1, 2, none⟩ = some (.slice ra rn rc)) (first | with_reducible assumption | simp [*, go_sem])
      (first | (go_at_call_of 35 (Value.slice oa on oc); refine C1.out.mono ?_; rintro e w4 ⟨v4, rfl, hO4, hn4, hb4⟩; (have B4 := Hid.mk' (bD hb4)); (have O4 : Hid (w4.ownsRow (w.heap.size + 1 + 1 + 1) 5 1 v4 m6 (bv xo)) := by have h9 := hO4; rw [show W3.drew.heap.size = W3.heap.size from rfl, hz3] at h9; exact h9); (have N4 := Hid.mk' hn4); clear hO4 hn4 hb4 o2 r2; (obtain ⟨a4, c4, hv4⟩ := own_shape O4.out); subst hv4; (obtain ⟨o2, r2⟩ := HC.out w4 B4.out); (have T4 := Hid.mk' ((HR.out.keep (bT BE.out B4.out)).srv)); (have hs4 : w.heap.size + 1 + 1 + 1 ≤ w4.heap.size := by have := B4.out.size; omega))
             | (refine step_bg (by rfl) (.tmp 31) (.tmp 33) (by rfl) (w.heap.size + 1 + 1 + 1) (.slice a4 m6 c4) m6 (bv xo) (by rfl) O4.out (.slice ra rn rc) rn (bv r) (by rfl) T4.out (by rw [bv_length]; exact hlr.out) (bv_one _) (by omega) (.inl (by omega)) hs4 ?_; intro v5 w5 hown5 hgrow5 _; (have B5 : Hid (Below W3.heap.size W3 w5) := B4.out.grown hgrow5 (by omega) (fun k hk => by have := (O4.out.lt k hk).1; omega)); (have O5 : Hid (w5.ownsRow (w.heap.size + 1 + 1 + 1) 5 1 v5 (m6 + rn) (bv (xo ++ r))) := by unfold Hid; rw [bv_append]; exact hown5); clear hown5 hgrow5 o2 r2; (obtain ⟨a5, c5, hv5, hT5⟩ := own_txl O5.out (by omega)); subst hv5; (have T5 := Hid.mk' hT5); clear hT5; (obtain ⟨o2, r2⟩ := HC.out w5 B5.out))
             | (go_at_call_of 35 (Value.slice a5 (m6 + rn) c5); refine (ended_any a5 (m6 + rn) c5 (xo ++ r) w5 T5.out (by omega)).mono ?_; rintro e w6 ⟨v6, rfl, hO6, hn6, hb6⟩; (have BF := Hid.mk' (bT B5.out hb6)); (have O6 : Hid (w6.ownsRow (w.heap.size + 1 + 1 + 1) 5 1 v6 m8 (bv (wle (xo ++ r)))) := by have h9 := own_lower (base' := w.heap.size + 1 + 1 + 1) hO6 (by have := B5.out.size; omega); rw [← HM.out.2] at h9; exact h9); clear hO6 hn6 hb6 o2 r2; (obtain ⟨a6, c6, hv6⟩ := own_shape O6.out); subst hv6; (obtain ⟨o2, r2⟩ := HC.out w6 BF.out); (have K3 := Hid.mk' (B3.out.keep BF.out)); (have q0 : w6.cell? ⟨w.heap.size + 1 + 1, 0, none⟩ = some (.bool false) := K3.out.cell rfl); (have q1 : w6.cell? ⟨w.heap.size + 1 + 1, 1, none⟩ = some (.bool false) := K3.out.cell rfl); (have q2 : w6.cell? ⟨w.heap.size + 1 + 1, 2, none⟩ = some (.slice none 0 0) := K3.out.cell rfl); (have g0 := K3.out.frozen 0); (have g1 := K3.out.frozen 1); (have g2 := K3.out.frozen 2))
             | fail)
    have hlv := ld24 (((K3.out.set (j := 0) (.bool true)).set (j := 1) (.bool true)).set (j := 2) (.slice a6 m8 c6))
    have OZ := Hid.mk' (own_set (j := 2) (u := .slice a6 m8 c6) (own_set (j := 1) (u := .bool true) (own_set (j := 0) (u := .bool true) O6.out (show w.heap.size + 1 + 1 < w.heap.size + 1 + 1 + 1 by omega)) (show w.heap.size + 1 + 1 < w.heap.size + 1 + 1 + 1 by omega)) (show w.heap.size + 1 + 1 < w.heap.size + 1 + 1 + 1 by omega))
    obtain ⟨a9, c9, hv9, hT9⟩ := own_txl OZ.out (by have := hlo.out; have := hlr.out; omega)
    obtain ⟨ea, ec⟩ : a6 = a9 ∧ c6 = c9 := by simpa using hv9
    subst ea ec
    have TZ := Hid.mk' hT9
    have BZ := Hid.mk' (bT BE.out BF.out)
    clear hv9 hT9 OZ
    go_wp2
    exact bodyPost_ret (v := .agg #[.bool true, .bool true, .slice a6 m8 c6]) (by simp [results, Try.results27, asAddr, hlv]) rfl ⟨_, _, _, rfl, TZ.out, bset (bset (bset BZ.out _ (by omega)) _ (by omega)) _ (by omega)⟩
  · clear hl
    go_enter Try.func27, Try.ntmps27
    go_wp2_with fail
    clear hW3 o0 o1 r1
    go_region_held3 (fun w' => w'.cell? ⟨w.heap.size, 2, none⟩ = some (.slice oa on oc) ∧ w'.cell? ⟨w.heap.size + 1, 2, none⟩ = some (.slice ra rn rc)) (first | with_reducible assumption | simp [*, go_sem])
      (first | (go_at_call_of 35 (Value.slice oa on oc); refine C1.out.mono ?_; rintro e w4 ⟨v4, rfl, hO4, hn4, hb4⟩; (have B4 := Hid.mk' (bD hb4)); (have O4 : Hid (w4.ownsRow (w.heap.size + 1 + 1 + 1) 5 1 v4 m6 (bv xo)) := by have h9 := hO4; rw [show W3.drew.heap.size = W3.heap.size from rfl, hz3] at h9; exact h9); (have N4 := Hid.mk' hn4); clear hO4 hn4 hb4 o2 r2; (obtain ⟨a4, c4, hv4⟩ := own_shape O4.out); subst hv4; (obtain ⟨o2, r2⟩ := HC.out w4 B4.out); (have T4 := Hid.mk' ((HR.out.keep (bT BE.out B4.out)).srv)); (have hs4 : w.heap.size + 1 + 1 + 1 ≤ w4.heap.size := by have := B4.out.size; omega))
             | (refine step_bg (by rfl) (.tmp 31) (.tmp 33) (by rfl) (w.heap.size + 1 + 1 + 1) (.slice a4 m6 c4) m6 (bv xo) (by rfl) O4.out (.slice ra rn rc) rn (bv r) (by rfl) T4.out (by rw [bv_length]; exact hlr.out) (bv_one _) (by omega) (.inl (by omega)) hs4 ?_; intro v5 w5 hown5 hgrow5 _; (have B5 : Hid (Below W3.heap.size W3 w5) := B4.out.grown hgrow5 (by omega) (fun k hk => by have := (O4.out.lt k hk).1; omega)); (have O5 : Hid (w5.ownsRow (w.heap.size + 1 + 1 + 1) 5 1 v5 (m6 + rn) (bv (xo ++ r))) := by unfold Hid; rw [bv_append]; exact hown5); clear hown5 hgrow5 o2 r2; (obtain ⟨a5, c5, hv5, hT5⟩ := own_txl O5.out (by omega)); subst hv5; (have T5 := Hid.mk' hT5); clear hT5; (obtain ⟨o2, r2⟩ := HC.out w5 B5.out))
             | (go_at_call_of 35 (Value.slice a5 (m6 + rn) c5); refine (ended_any a5 (m6 + rn) c5 (xo ++ r) w5 T5.out (by omega)).mono ?_; rintro e w6 ⟨v6, rfl, hO6, hn6, hb6⟩; (have BF := Hid.mk' (bT B5.out hb6)); (have O6 : Hid (w6.ownsRow (w.heap.size + 1 + 1 + 1) 5 1 v6 m8 (bv (wle (xo ++ r)))) := by have h9 := own_lower (base' := w.heap.size + 1 + 1 + 1) hO6 (by have := B5.out.size; omega); rw [← HM.out.2] at h9; exact h9); clear hO6 hn6 hb6 o2 r2; (obtain ⟨a6, c6, hv6⟩ := own_shape O6.out); subst hv6; (obtain ⟨o2, r2⟩ := HC.out w6 BF.out); (have K3 := Hid.mk' (B3.out.keep BF.out)); (have q0 : w6.cell? ⟨w.heap.size + 1 + 1, 0, none⟩ = some (.bool false) := K3.out.cell rfl); (have q1 : w6.cell? ⟨w.heap.size + 1 + 1, 1, none⟩ = some (.bool false) := K3.out.cell rfl); (have q2 : w6.cell? ⟨w.heap.size + 1 + 1, 2, none⟩ = some (.slice none 0 0) := K3.out.cell rfl); (have g0 := K3.out.frozen 0); (have g1 := K3.out.frozen 1); (have g2 := K3.out.frozen 2))
             | fail)
    have hlv := ld24 (((K3.out.set (j := 0) (.bool true)).set (j := 1) (.bool true)).set (j := 2) (.slice a6 m8 c6))
    have OZ := Hid.mk' (own_set (j := 2) (u := .slice a6 m8 c6) (own_set (j := 1) (u := .bool true) (own_set (j := 0) (u := .bool true) O6.out (show w.heap.size + 1 + 1 < w.heap.size + 1 + 1 + 1 by omega)) (show w.heap.size + 1 + 1 < w.heap.size + 1 + 1 + 1 by omega)) (show w.heap.size + 1 + 1 < w.heap.size + 1 + 1 + 1 by omega))
    obtain ⟨a9, c9, hv9, hT9⟩ := own_txl OZ.out (by have := hlo.out; have := hlr.out; omega)
    obtain ⟨ea, ec⟩ : a6 = a9 ∧ c6 = c9 := by simpa using hv9
    subst ea ec
    have TZ := Hid.mk' hT9
    have BZ := Hid.mk' (bT BE.out BF.out)
    clear hv9 hT9 OZ
    go_wp2
    exact bodyPost_ret (v := .agg #[.bool true, .bool true, .slice a6 m8 c6]) (by simp [results, Try.results27, asAddr, hlv]) rfl ⟨_, _, _, rfl, TZ.out, bset (bset (bset BZ.out _ (by omega)) _ (by omega)) _ (by omega)⟩
/-- behind, whatever is there -/
theorem rbehind_any (so lo sr lr : Bool) (oa ra : Option Addr) (on oc rn rc : Nat) (o r : List UInt8) (w : World) (HO : Hid (Tx w oa on oc o)) (HR : Hid (Tx w ra rn rc r)) (hon : on ≤ 140737488351232) (hrn : rn ≤ 65536) :
    Calls Try.prog 27 #[.agg #[.bool so, .bool lo, .slice oa on oc], .agg #[.bool sr, .bool lr, .slice ra rn rc]] w fun e w' => ∃ a' n' c', e = .returned (.agg #[.bool true, .bool (if so then lo || lr else lr), .slice a' n' c']) ∧ Tx w' a' n' c' (if so then bht lo lr o r else r) ∧ Below w.heap.size w w' := by
  cases so with
  | false => exact rb_no lo lr sr oa ra on oc rn rc o r w HO HR hon hrn
  | true =>
    cases hl : (lo || lr) with
    | false =>
      have h1 : lo = false ∧ lr = false := by simpa using hl
      obtain ⟨rfl, rfl⟩ := h1
      exact rb_plain sr oa ra on oc rn rc o r w HO HR hon hrn
    | true => exact rb_lines lo lr sr oa ra on oc rn rc o r w HO HR hon hrn hl
end Go.Proofs.Ytienamngmalkaaa
