/- bank.behind: a content put behind another. -/
import Derived.Test.YtienamngmalkaaaEnd
namespace Go.Proofs.Ytienamngmalkaaa
open Go.RowKit

set_option maxRecDepth 8000
/-- what a text and one put behind it make -/
def bht (lo lr : Bool) (o r : List UInt8) : List UInt8 := if lo || lr then wle (wle o ++ r) else o ++ r
theorem bht_len (lo lr : Bool) (o r : List UInt8) : (bht lo lr o r).length ≤ o.length + r.length + 2 := by
  unfold bht
  split
  · have h1 := wle_len (wle o ++ r); have h2 := wle_len o; rw [List.length_append] at h1; omega
  · simp
theorem bv_append (a b : List UInt8) : bv (a ++ b) = bv a ++ bv b := by simp [bv]
theorem Blk.lowkeep {W W' : World} {B e n : Nat} {cs : Array Value} (h : Blk W B e cs) (hb : Below n W W') (hn : B < n) : Blk W' B e cs := by unfold Blk; rw [hb.block B hn]; exact h
set_option maxHeartbeats 2000000 in
theorem behind_ff (so sr : Bool) (ao ar : Option Addr) (no co nr cr : Nat) (o r : List UInt8) (w : World) (HO : Hid (Tx w ao no co o)) (HR : Hid (Tx w ar nr cr r)) (hno : no ≤ 140737488355328) (hnr : nr ≤ 140737488355328) (hsum : no + nr + 2 ≤ 150000000000000) :
    Calls Try.prog 31 #[.agg #[.bool so, .bool false, .slice ao no co], .agg #[.bool sr, .bool false, .slice ar nr cr]] w fun e w' => ∃ a' c' m', m' = (bht false false o r).length ∧ e = .returned (.agg #[.bool true, .bool false, .slice a' m' c']) ∧
      w'.ownsRow w.heap.size 5 1 (.slice a' m' c') m' (bv (bht false false o r)) ∧ Below w.heap.size w w' := by
  have hlo := Hid.mk' HO.out.len
  have hlr := Hid.mk' HR.out.len
  generalize hW3 : ((w.alloc (.cells #[.bool so, .bool false, .slice ao no co] 24)).alloc (.cells #[.bool sr, .bool false, .slice ar nr cr] 24)).alloc (.cells #[.bool false, .bool false, .slice none 0 0] 24) = W3
  have hz3 : W3.heap.size = w.heap.size + 1 + 1 + 1 := by subst hW3; simp
  have BE : Hid (Below w.heap.size w W3) := by subst hW3; exact bAlloc (bAlloc (bAlloc (Below.refl _ _) _) _) _
  have B1 : Hid (Blk W3 w.heap.size 24 #[.bool so, .bool false, .slice ao no co]) := by subst hW3; exact ((Blk.new w 24 _).keep (bAlloc (Below.refl _ _) _)).keep (bAlloc (Below.refl _ _) _)
  have B2 : Hid (Blk W3 (w.heap.size + 1) 24 #[.bool sr, .bool false, .slice ar nr cr]) := by
    subst hW3
    have := (Blk.new (w.alloc (.cells #[.bool so, .bool false, .slice ao no co] 24)) 24 #[.bool sr, .bool false, .slice ar nr cr]).keep (bAlloc (Below.refl _ _) (.cells #[.bool false, .bool false, .slice none 0 0] 24))
    rwa [World.size_alloc] at this
  have B3 : Hid (Blk W3 (w.heap.size + 1 + 1) 24 #[.bool false, .bool false, .slice none 0 0]) := by
    subst hW3
    have := Blk.new ((w.alloc (.cells #[.bool so, .bool false, .slice ao no co] 24)).alloc (.cells #[.bool sr, .bool false, .slice ar nr cr] 24)) 24 #[.bool false, .bool false, .slice none 0 0]
    rwa [World.size_alloc, World.size_alloc] at this
  have o1 : W3.cell? ⟨w.heap.size, 1, none⟩ = some (.bool false) := B1.out.cell rfl
  have o2 : W3.cell? ⟨w.heap.size, 2, none⟩ = some (.slice ao no co) := B1.out.cell rfl
  have CC := Hid.mk' (clone_any ao no co o W3 (HO.out.keep BE.out) hno)
  go_enter Try.func31, Try.ntmps31
  go_wp2_with fail
  clear hW3 o1 o2
  refine CC.out.mono ?_
  rintro e w5 ⟨v5, rfl, hO5, hb5⟩
  have O5 := Hid.mk' hO5
  rw [hz3] at O5
  have K1 := Hid.mk' (B1.out.keep hb5)
  have K2 := Hid.mk' (B2.out.keep hb5)
  have K3 := Hid.mk' (B3.out.keep hb5)
  have BF := Hid.mk' (bT BE.out hb5)
  have hs5 : w.heap.size + 1 + 1 + 1 ≤ w5.heap.size := by have := hb5.size; omega
  clear hO5 hb5 B1 B2 B3 BE CC hz3
  obtain ⟨a5, c5, hv5⟩ := own_shape O5.out
  subst hv5
  have o1 : w5.cell? ⟨w.heap.size, 1, none⟩ = some (.bool false) := K1.out.cell rfl
  have r1 : w5.cell? ⟨w.heap.size + 1, 1, none⟩ = some (.bool false) := K2.out.cell rfl
  have r2 : w5.cell? ⟨w.heap.size + 1, 2, none⟩ = some (.slice ar nr cr) := K2.out.cell rfl
  go_wp2_with (at_builtin; refine append_big rfl (.tmp 19) (.tmp 21) rfl (w.heap.size + 1 + 1 + 1) (.slice a5 no c5) no (bv o) rfl O5.out (.slice ar nr cr) nr (bv r) rfl ((HR.out.keep BF.out).srv) (by rw [bv_length]; exact hlr.out) (bv_one _) (by omega) hnr (by omega) ?_)
  intro v7 w7 hown7 hgrow7 _
  have O7 := Hid.mk' hown7
  have hge : ∀ k, Value.ownBlock (.slice a5 no c5) = some k → w.heap.size + 1 + 1 + 1 ≤ k := fun k hk => (O5.out.lt k hk).1
  have BH : Hid (Below (w.heap.size + 1 + 1 + 1) w5 w7) := (Below.refl _ _).grown hgrow7 (by omega) hge
  have K1 := Hid.mk' (Blk.lowkeep K1.out BH.out (by omega))
  have K2 := Hid.mk' (Blk.lowkeep K2.out BH.out (by omega))
  have K3 := Hid.mk' (Blk.lowkeep K3.out BH.out (by omega))
  have BI := Hid.mk' (BF.out.trans (BH.out.mono (by omega)))
  have hs7 : w.heap.size + 1 + 1 + 1 ≤ w7.heap.size := by have := BH.out.size; omega
  clear hown7 hgrow7 hge BH
  rw [← bv_append] at O7
  obtain ⟨a7, c7, hv7⟩ := own_shape O7.out
  subst hv7
  have hl7 : no + nr = (bht false false o r).length := by have := hlo.out; have := hlr.out; show _ = (o ++ r).length; rw [List.length_append]; omega
  have HM := Hid.mk' hl7
  clear hl7 o1 r1 r2
  have q0 : w7.cell? ⟨w.heap.size + 1 + 1, 0, none⟩ = some (.bool false) := K3.out.cell rfl
  have q1 : w7.cell? ⟨w.heap.size + 1 + 1, 1, none⟩ = some (.bool false) := K3.out.cell rfl
  have q2 : w7.cell? ⟨w.heap.size + 1 + 1, 2, none⟩ = some (.slice none 0 0) := K3.out.cell rfl
  have g0 := K3.out.frozen 0
  have g1 := K3.out.frozen 1
  have g2 := K3.out.frozen 2
  have hlv := ld24 (((K3.out.set (j := 0) (.bool true)).set (j := 1) (.bool false)).set (j := 2) (.slice a7 (no + nr) c7))
  go_wp2
  exact bodyPost_ret (v := .agg #[.bool true, .bool false, .slice a7 (no + nr) c7]) (by simp [results, Try.results31, asAddr, hlv]) rfl ⟨_, _, _, HM.out, rfl, own_lower (own_set (own_set (own_set O7.out (by omega)) (by omega)) (by omega)) (by omega), bset (bset (bset BI.out _ (by omega)) _ (by omega)) _ (by omega)⟩
set_option maxHeartbeats 2000000 in
theorem behind_ft (so sr : Bool) (ao ar : Option Addr) (no co nr cr : Nat) (o r : List UInt8) (w : World) (HO : Hid (Tx w ao no co o)) (HR : Hid (Tx w ar nr cr r)) (hno : no ≤ 140737488355328) (hnr : nr ≤ 140737488355328) (hsum : no + nr + 2 ≤ 150000000000000) :
    Calls Try.prog 31 #[.agg #[.bool so, .bool false, .slice ao no co], .agg #[.bool sr, .bool true, .slice ar nr cr]] w fun e w' => ∃ a' c' m', m' = (bht false true o r).length ∧ e = .returned (.agg #[.bool true, .bool true, .slice a' m' c']) ∧
      w'.ownsRow w.heap.size 5 1 (.slice a' m' c') m' (bv (bht false true o r)) ∧ Below w.heap.size w w' := by
  have hlo := Hid.mk' HO.out.len
  have hlr := Hid.mk' HR.out.len
  generalize hW3 : ((w.alloc (.cells #[.bool so, .bool false, .slice ao no co] 24)).alloc (.cells #[.bool sr, .bool true, .slice ar nr cr] 24)).alloc (.cells #[.bool false, .bool false, .slice none 0 0] 24) = W3
  have hz3 : W3.heap.size = w.heap.size + 1 + 1 + 1 := by subst hW3; simp
  have BE : Hid (Below w.heap.size w W3) := by subst hW3; exact bAlloc (bAlloc (bAlloc (Below.refl _ _) _) _) _
  have B1 : Hid (Blk W3 w.heap.size 24 #[.bool so, .bool false, .slice ao no co]) := by subst hW3; exact ((Blk.new w 24 _).keep (bAlloc (Below.refl _ _) _)).keep (bAlloc (Below.refl _ _) _)
  have B2 : Hid (Blk W3 (w.heap.size + 1) 24 #[.bool sr, .bool true, .slice ar nr cr]) := by
    subst hW3
    have := (Blk.new (w.alloc (.cells #[.bool so, .bool false, .slice ao no co] 24)) 24 #[.bool sr, .bool true, .slice ar nr cr]).keep (bAlloc (Below.refl _ _) (.cells #[.bool false, .bool false, .slice none 0 0] 24))
    rwa [World.size_alloc] at this
  have B3 : Hid (Blk W3 (w.heap.size + 1 + 1) 24 #[.bool false, .bool false, .slice none 0 0]) := by
    subst hW3
    have := Blk.new ((w.alloc (.cells #[.bool so, .bool false, .slice ao no co] 24)).alloc (.cells #[.bool sr, .bool true, .slice ar nr cr] 24)) 24 #[.bool false, .bool false, .slice none 0 0]
    rwa [World.size_alloc, World.size_alloc] at this
  have o1 : W3.cell? ⟨w.heap.size, 1, none⟩ = some (.bool false) := B1.out.cell rfl
  have o2 : W3.cell? ⟨w.heap.size, 2, none⟩ = some (.slice ao no co) := B1.out.cell rfl
  have CC := Hid.mk' (clone_any ao no co o W3 (HO.out.keep BE.out) hno)
  go_enter Try.func31, Try.ntmps31
  go_wp2_with fail
  clear hW3 o1 o2
  refine CC.out.mono ?_
  rintro e w5 ⟨v5, rfl, hO5, hb5⟩
  have O5 := Hid.mk' hO5
  rw [hz3] at O5
  have K1 := Hid.mk' (B1.out.keep hb5)
  have K2 := Hid.mk' (B2.out.keep hb5)
  have K3 := Hid.mk' (B3.out.keep hb5)
  have BF := Hid.mk' (bT BE.out hb5)
  have hs5 : w.heap.size + 1 + 1 + 1 ≤ w5.heap.size := by have := hb5.size; omega
  clear hO5 hb5 B1 B2 B3 BE CC hz3
  obtain ⟨a5, c5, hv5⟩ := own_shape O5.out
  subst hv5
  have o1 : w5.cell? ⟨w.heap.size, 1, none⟩ = some (.bool false) := K1.out.cell rfl
  have r1 : w5.cell? ⟨w.heap.size + 1, 1, none⟩ = some (.bool true) := K2.out.cell rfl
  have r2 : w5.cell? ⟨w.heap.size + 1, 2, none⟩ = some (.slice ar nr cr) := K2.out.cell rfl
  have C1 := Hid.mk' (withLineEnd_any (w.heap.size + 1 + 1 + 1) (.slice a5 no c5) no o w5 O5.out hs5 (by omega))
  go_wp2_with fail
  refine C1.out.mono ?_
  rintro e w6 ⟨v6, rfl, hO6, hb6⟩
  have O6 := Hid.mk' hO6
  have hlw : (wle o).length ≤ no + 1 := by have := wle_len o; have := hlo.out; omega
  have hbl : bv (wle (wle o ++ r)) = bv (bht false true o r) := rfl
  have hbl2 : (wle (wle o ++ r)).length = (bht false true o r).length := rfl
  generalize hxo : wle o = xo at *
  obtain ⟨m6, hm6⟩ : ∃ m, m = xo.length := ⟨_, rfl⟩
  rw [← hm6] at O6 hlw
  have HX := Hid.mk' (And.intro hxo (And.intro hm6 (And.intro hbl hbl2)))
  have K1 := Hid.mk' (Blk.lowkeep K1.out hb6 (by omega))
  have K2 := Hid.mk' (Blk.lowkeep K2.out hb6 (by omega))
  have K3 := Hid.mk' (Blk.lowkeep K3.out hb6 (by omega))
  have BG := Hid.mk' (BF.out.trans (hb6.mono (by omega)))
  have hs6 : w.heap.size + 1 + 1 + 1 ≤ w6.heap.size := by have := hb6.size; omega
  clear hO6 hb6 BF O5 C1 o1 r1 r2 hxo hm6 hbl hbl2
  obtain ⟨a6, c6, hv6⟩ := own_shape O6.out
  subst hv6
  have r2 : w6.cell? ⟨w.heap.size + 1, 2, none⟩ = some (.slice ar nr cr) := K2.out.cell rfl
  go_wp2_with (at_builtin; refine append_big rfl (.tmp 19) (.tmp 21) rfl (w.heap.size + 1 + 1 + 1) (.slice a6 m6 c6) m6 (bv xo) rfl O6.out (.slice ar nr cr) nr (bv r) rfl ((HR.out.keep BG.out).srv) (by rw [bv_length]; exact hlr.out) (bv_one _) (by omega) hnr (by omega) ?_)
  intro v7 w7 hown7 hgrow7 _
  have O7 := Hid.mk' hown7
  have hge : ∀ k, Value.ownBlock (.slice a6 m6 c6) = some k → w.heap.size + 1 + 1 + 1 ≤ k := fun k hk => (O6.out.lt k hk).1
  have BH : Hid (Below (w.heap.size + 1 + 1 + 1) w6 w7) := (Below.refl _ _).grown hgrow7 (by omega) hge
  have K1 := Hid.mk' (Blk.lowkeep K1.out BH.out (by omega))
  have K2 := Hid.mk' (Blk.lowkeep K2.out BH.out (by omega))
  have K3 := Hid.mk' (Blk.lowkeep K3.out BH.out (by omega))
  have BI := Hid.mk' (BG.out.trans (BH.out.mono (by omega)))
  have hs7 : w.heap.size + 1 + 1 + 1 ≤ w7.heap.size := by have := BH.out.size; omega
  clear hown7 hgrow7 hge BH
  rw [← bv_append] at O7
  obtain ⟨a7, c7, hv7⟩ := own_shape O7.out
  subst hv7
  clear r2
  have C2 := Hid.mk' (withLineEnd_any (w.heap.size + 1 + 1 + 1) (.slice a7 (m6 + nr) c7) (m6 + nr) (xo ++ r) w7 O7.out hs7 (by omega))
  go_wp2_with fail
  refine C2.out.mono ?_
  rintro e w8 ⟨v8, rfl, hO8, hb8⟩
  have O8 := Hid.mk' hO8
  obtain ⟨hxo, hm6, hbl, hbl2⟩ := HX.out
  rw [hbl, hbl2] at O8
  clear hbl hbl2 hxo hm6
  have K3 := Hid.mk' (Blk.lowkeep K3.out hb8 (by omega))
  have BJ := Hid.mk' (BI.out.trans (hb8.mono (by omega)))
  obtain ⟨m8, hm8⟩ : ∃ m, m = (bht false true o r).length := ⟨_, rfl⟩
  rw [← hm8] at O8
  have HM := Hid.mk' hm8
  clear hm8 hO8 hb8 BI O7 C2
  obtain ⟨a8, c8, hv8⟩ := own_shape O8.out
  subst hv8
  have q0 : w8.cell? ⟨w.heap.size + 1 + 1, 0, none⟩ = some (.bool false) := K3.out.cell rfl
  have q1 : w8.cell? ⟨w.heap.size + 1 + 1, 1, none⟩ = some (.bool false) := K3.out.cell rfl
  have q2 : w8.cell? ⟨w.heap.size + 1 + 1, 2, none⟩ = some (.slice none 0 0) := K3.out.cell rfl
  have g0 := K3.out.frozen 0
  have g1 := K3.out.frozen 1
  have g2 := K3.out.frozen 2
  have hlv := ld24 (((K3.out.set (j := 0) (.bool true)).set (j := 1) (.bool true)).set (j := 2) (.slice a8 m8 c8))
  go_wp2
  exact bodyPost_ret (v := .agg #[.bool true, .bool true, .slice a8 m8 c8]) (by simp [results, Try.results31, asAddr, hlv]) rfl ⟨_, _, _, HM.out, rfl, own_lower (own_set (own_set (own_set O8.out (by omega)) (by omega)) (by omega)) (by omega), bset (bset (bset BJ.out _ (by omega)) _ (by omega)) _ (by omega)⟩
set_option maxHeartbeats 2000000 in
theorem behind_tf (so sr : Bool) (ao ar : Option Addr) (no co nr cr : Nat) (o r : List UInt8) (w : World) (HO : Hid (Tx w ao no co o)) (HR : Hid (Tx w ar nr cr r)) (hno : no ≤ 140737488355328) (hnr : nr ≤ 140737488355328) (hsum : no + nr + 2 ≤ 150000000000000) :
    Calls Try.prog 31 #[.agg #[.bool so, .bool true, .slice ao no co], .agg #[.bool sr, .bool false, .slice ar nr cr]] w fun e w' => ∃ a' c' m', m' = (bht true false o r).length ∧ e = .returned (.agg #[.bool true, .bool true, .slice a' m' c']) ∧
      w'.ownsRow w.heap.size 5 1 (.slice a' m' c') m' (bv (bht true false o r)) ∧ Below w.heap.size w w' := by
  have hlo := Hid.mk' HO.out.len
  have hlr := Hid.mk' HR.out.len
  generalize hW3 : ((w.alloc (.cells #[.bool so, .bool true, .slice ao no co] 24)).alloc (.cells #[.bool sr, .bool false, .slice ar nr cr] 24)).alloc (.cells #[.bool false, .bool false, .slice none 0 0] 24) = W3
  have hz3 : W3.heap.size = w.heap.size + 1 + 1 + 1 := by subst hW3; simp
  have BE : Hid (Below w.heap.size w W3) := by subst hW3; exact bAlloc (bAlloc (bAlloc (Below.refl _ _) _) _) _
  have B1 : Hid (Blk W3 w.heap.size 24 #[.bool so, .bool true, .slice ao no co]) := by subst hW3; exact ((Blk.new w 24 _).keep (bAlloc (Below.refl _ _) _)).keep (bAlloc (Below.refl _ _) _)
  have B2 : Hid (Blk W3 (w.heap.size + 1) 24 #[.bool sr, .bool false, .slice ar nr cr]) := by
    subst hW3
    have := (Blk.new (w.alloc (.cells #[.bool so, .bool true, .slice ao no co] 24)) 24 #[.bool sr, .bool false, .slice ar nr cr]).keep (bAlloc (Below.refl _ _) (.cells #[.bool false, .bool false, .slice none 0 0] 24))
    rwa [World.size_alloc] at this
  have B3 : Hid (Blk W3 (w.heap.size + 1 + 1) 24 #[.bool false, .bool false, .slice none 0 0]) := by
    subst hW3
    have := Blk.new ((w.alloc (.cells #[.bool so, .bool true, .slice ao no co] 24)).alloc (.cells #[.bool sr, .bool false, .slice ar nr cr] 24)) 24 #[.bool false, .bool false, .slice none 0 0]
    rwa [World.size_alloc, World.size_alloc] at this
  have o1 : W3.cell? ⟨w.heap.size, 1, none⟩ = some (.bool true) := B1.out.cell rfl
  have o2 : W3.cell? ⟨w.heap.size, 2, none⟩ = some (.slice ao no co) := B1.out.cell rfl
  have CC := Hid.mk' (clone_any ao no co o W3 (HO.out.keep BE.out) hno)
  go_enter Try.func31, Try.ntmps31
  go_wp2_with fail
  clear hW3 o1 o2
  refine CC.out.mono ?_
  rintro e w5 ⟨v5, rfl, hO5, hb5⟩
  have O5 := Hid.mk' hO5
  rw [hz3] at O5
  have K1 := Hid.mk' (B1.out.keep hb5)
  have K2 := Hid.mk' (B2.out.keep hb5)
  have K3 := Hid.mk' (B3.out.keep hb5)
  have BF := Hid.mk' (bT BE.out hb5)
  have hs5 : w.heap.size + 1 + 1 + 1 ≤ w5.heap.size := by have := hb5.size; omega
  clear hO5 hb5 B1 B2 B3 BE CC hz3
  obtain ⟨a5, c5, hv5⟩ := own_shape O5.out
  subst hv5
  have o1 : w5.cell? ⟨w.heap.size, 1, none⟩ = some (.bool true) := K1.out.cell rfl
  have r1 : w5.cell? ⟨w.heap.size + 1, 1, none⟩ = some (.bool false) := K2.out.cell rfl
  have r2 : w5.cell? ⟨w.heap.size + 1, 2, none⟩ = some (.slice ar nr cr) := K2.out.cell rfl
  have C1 := Hid.mk' (withLineEnd_any (w.heap.size + 1 + 1 + 1) (.slice a5 no c5) no o w5 O5.out hs5 (by omega))
  go_wp2_with fail
  refine C1.out.mono ?_
  rintro e w6 ⟨v6, rfl, hO6, hb6⟩
  have O6 := Hid.mk' hO6
  have hlw : (wle o).length ≤ no + 1 := by have := wle_len o; have := hlo.out; omega
  have hbl : bv (wle (wle o ++ r)) = bv (bht true false o r) := rfl
  have hbl2 : (wle (wle o ++ r)).length = (bht true false o r).length := rfl
  generalize hxo : wle o = xo at *
  obtain ⟨m6, hm6⟩ : ∃ m, m = xo.length := ⟨_, rfl⟩
  rw [← hm6] at O6 hlw
  have HX := Hid.mk' (And.intro hxo (And.intro hm6 (And.intro hbl hbl2)))
  have K1 := Hid.mk' (Blk.lowkeep K1.out hb6 (by omega))
  have K2 := Hid.mk' (Blk.lowkeep K2.out hb6 (by omega))
  have K3 := Hid.mk' (Blk.lowkeep K3.out hb6 (by omega))
  have BG := Hid.mk' (BF.out.trans (hb6.mono (by omega)))
  have hs6 : w.heap.size + 1 + 1 + 1 ≤ w6.heap.size := by have := hb6.size; omega
  clear hO6 hb6 BF O5 C1 o1 r1 r2 hxo hm6 hbl hbl2
  obtain ⟨a6, c6, hv6⟩ := own_shape O6.out
  subst hv6
  have r2 : w6.cell? ⟨w.heap.size + 1, 2, none⟩ = some (.slice ar nr cr) := K2.out.cell rfl
  go_wp2_with (at_builtin; refine append_big rfl (.tmp 19) (.tmp 21) rfl (w.heap.size + 1 + 1 + 1) (.slice a6 m6 c6) m6 (bv xo) rfl O6.out (.slice ar nr cr) nr (bv r) rfl ((HR.out.keep BG.out).srv) (by rw [bv_length]; exact hlr.out) (bv_one _) (by omega) hnr (by omega) ?_)
  intro v7 w7 hown7 hgrow7 _
  have O7 := Hid.mk' hown7
  have hge : ∀ k, Value.ownBlock (.slice a6 m6 c6) = some k → w.heap.size + 1 + 1 + 1 ≤ k := fun k hk => (O6.out.lt k hk).1
  have BH : Hid (Below (w.heap.size + 1 + 1 + 1) w6 w7) := (Below.refl _ _).grown hgrow7 (by omega) hge
  have K1 := Hid.mk' (Blk.lowkeep K1.out BH.out (by omega))
  have K2 := Hid.mk' (Blk.lowkeep K2.out BH.out (by omega))
  have K3 := Hid.mk' (Blk.lowkeep K3.out BH.out (by omega))
  have BI := Hid.mk' (BG.out.trans (BH.out.mono (by omega)))
  have hs7 : w.heap.size + 1 + 1 + 1 ≤ w7.heap.size := by have := BH.out.size; omega
  clear hown7 hgrow7 hge BH
  rw [← bv_append] at O7
  obtain ⟨a7, c7, hv7⟩ := own_shape O7.out
  subst hv7
  clear r2
  have C2 := Hid.mk' (withLineEnd_any (w.heap.size + 1 + 1 + 1) (.slice a7 (m6 + nr) c7) (m6 + nr) (xo ++ r) w7 O7.out hs7 (by omega))
  go_wp2_with fail
  refine C2.out.mono ?_
  rintro e w8 ⟨v8, rfl, hO8, hb8⟩
  have O8 := Hid.mk' hO8
  obtain ⟨hxo, hm6, hbl, hbl2⟩ := HX.out
  rw [hbl, hbl2] at O8
  clear hbl hbl2 hxo hm6
  have K3 := Hid.mk' (Blk.lowkeep K3.out hb8 (by omega))
  have BJ := Hid.mk' (BI.out.trans (hb8.mono (by omega)))
  obtain ⟨m8, hm8⟩ : ∃ m, m = (bht true false o r).length := ⟨_, rfl⟩
  rw [← hm8] at O8
  have HM := Hid.mk' hm8
  clear hm8 hO8 hb8 BI O7 C2
  obtain ⟨a8, c8, hv8⟩ := own_shape O8.out
  subst hv8
  have q0 : w8.cell? ⟨w.heap.size + 1 + 1, 0, none⟩ = some (.bool false) := K3.out.cell rfl
  have q1 : w8.cell? ⟨w.heap.size + 1 + 1, 1, none⟩ = some (.bool false) := K3.out.cell rfl
  have q2 : w8.cell? ⟨w.heap.size + 1 + 1, 2, none⟩ = some (.slice none 0 0) := K3.out.cell rfl
  have g0 := K3.out.frozen 0
  have g1 := K3.out.frozen 1
  have g2 := K3.out.frozen 2
  have hlv := ld24 (((K3.out.set (j := 0) (.bool true)).set (j := 1) (.bool true)).set (j := 2) (.slice a8 m8 c8))
  go_wp2
  exact bodyPost_ret (v := .agg #[.bool true, .bool true, .slice a8 m8 c8]) (by simp [results, Try.results31, asAddr, hlv]) rfl ⟨_, _, _, HM.out, rfl, own_lower (own_set (own_set (own_set O8.out (by omega)) (by omega)) (by omega)) (by omega), bset (bset (bset BJ.out _ (by omega)) _ (by omega)) _ (by omega)⟩
set_option maxHeartbeats 2000000 in
theorem behind_tt (so sr : Bool) (ao ar : Option Addr) (no co nr cr : Nat) (o r : List UInt8) (w : World) (HO : Hid (Tx w ao no co o)) (HR : Hid (Tx w ar nr cr r)) (hno : no ≤ 140737488355328) (hnr : nr ≤ 140737488355328) (hsum : no + nr + 2 ≤ 150000000000000) :
    Calls Try.prog 31 #[.agg #[.bool so, .bool true, .slice ao no co], .agg #[.bool sr, .bool true, .slice ar nr cr]] w fun e w' => ∃ a' c' m', m' = (bht true true o r).length ∧ e = .returned (.agg #[.bool true, .bool true, .slice a' m' c']) ∧
      w'.ownsRow w.heap.size 5 1 (.slice a' m' c') m' (bv (bht true true o r)) ∧ Below w.heap.size w w' := by
  have hlo := Hid.mk' HO.out.len
  have hlr := Hid.mk' HR.out.len
  generalize hW3 : ((w.alloc (.cells #[.bool so, .bool true, .slice ao no co] 24)).alloc (.cells #[.bool sr, .bool true, .slice ar nr cr] 24)).alloc (.cells #[.bool false, .bool false, .slice none 0 0] 24) = W3
  have hz3 : W3.heap.size = w.heap.size + 1 + 1 + 1 := by subst hW3; simp
  have BE : Hid (Below w.heap.size w W3) := by subst hW3; exact bAlloc (bAlloc (bAlloc (Below.refl _ _) _) _) _
  have B1 : Hid (Blk W3 w.heap.size 24 #[.bool so, .bool true, .slice ao no co]) := by subst hW3; exact ((Blk.new w 24 _).keep (bAlloc (Below.refl _ _) _)).keep (bAlloc (Below.refl _ _) _)
  have B2 : Hid (Blk W3 (w.heap.size + 1) 24 #[.bool sr, .bool true, .slice ar nr cr]) := by
    subst hW3
    have := (Blk.new (w.alloc (.cells #[.bool so, .bool true, .slice ao no co] 24)) 24 #[.bool sr, .bool true, .slice ar nr cr]).keep (bAlloc (Below.refl _ _) (.cells #[.bool false, .bool false, .slice none 0 0] 24))
    rwa [World.size_alloc] at this
  have B3 : Hid (Blk W3 (w.heap.size + 1 + 1) 24 #[.bool false, .bool false, .slice none 0 0]) := by
    subst hW3
    have := Blk.new ((w.alloc (.cells #[.bool so, .bool true, .slice ao no co] 24)).alloc (.cells #[.bool sr, .bool true, .slice ar nr cr] 24)) 24 #[.bool false, .bool false, .slice none 0 0]
    rwa [World.size_alloc, World.size_alloc] at this
  have o1 : W3.cell? ⟨w.heap.size, 1, none⟩ = some (.bool true) := B1.out.cell rfl
  have o2 : W3.cell? ⟨w.heap.size, 2, none⟩ = some (.slice ao no co) := B1.out.cell rfl
  have CC := Hid.mk' (clone_any ao no co o W3 (HO.out.keep BE.out) hno)
  go_enter Try.func31, Try.ntmps31
  go_wp2_with fail
  clear hW3 o1 o2
  refine CC.out.mono ?_
  rintro e w5 ⟨v5, rfl, hO5, hb5⟩
  have O5 := Hid.mk' hO5
  rw [hz3] at O5
  have K1 := Hid.mk' (B1.out.keep hb5)
  have K2 := Hid.mk' (B2.out.keep hb5)
  have K3 := Hid.mk' (B3.out.keep hb5)
  have BF := Hid.mk' (bT BE.out hb5)
  have hs5 : w.heap.size + 1 + 1 + 1 ≤ w5.heap.size := by have := hb5.size; omega
  clear hO5 hb5 B1 B2 B3 BE CC hz3
  obtain ⟨a5, c5, hv5⟩ := own_shape O5.out
  subst hv5
  have o1 : w5.cell? ⟨w.heap.size, 1, none⟩ = some (.bool true) := K1.out.cell rfl
  have r1 : w5.cell? ⟨w.heap.size + 1, 1, none⟩ = some (.bool true) := K2.out.cell rfl
  have r2 : w5.cell? ⟨w.heap.size + 1, 2, none⟩ = some (.slice ar nr cr) := K2.out.cell rfl
  have C1 := Hid.mk' (withLineEnd_any (w.heap.size + 1 + 1 + 1) (.slice a5 no c5) no o w5 O5.out hs5 (by omega))
  go_wp2_with fail
  refine C1.out.mono ?_
  rintro e w6 ⟨v6, rfl, hO6, hb6⟩
  have O6 := Hid.mk' hO6
  have hlw : (wle o).length ≤ no + 1 := by have := wle_len o; have := hlo.out; omega
  have hbl : bv (wle (wle o ++ r)) = bv (bht true true o r) := rfl
  have hbl2 : (wle (wle o ++ r)).length = (bht true true o r).length := rfl
  generalize hxo : wle o = xo at *
  obtain ⟨m6, hm6⟩ : ∃ m, m = xo.length := ⟨_, rfl⟩
  rw [← hm6] at O6 hlw
  have HX := Hid.mk' (And.intro hxo (And.intro hm6 (And.intro hbl hbl2)))
  have K1 := Hid.mk' (Blk.lowkeep K1.out hb6 (by omega))
  have K2 := Hid.mk' (Blk.lowkeep K2.out hb6 (by omega))
  have K3 := Hid.mk' (Blk.lowkeep K3.out hb6 (by omega))
  have BG := Hid.mk' (BF.out.trans (hb6.mono (by omega)))
  have hs6 : w.heap.size + 1 + 1 + 1 ≤ w6.heap.size := by have := hb6.size; omega
  clear hO6 hb6 BF O5 C1 o1 r1 r2 hxo hm6 hbl hbl2
  obtain ⟨a6, c6, hv6⟩ := own_shape O6.out
  subst hv6
  have r2 : w6.cell? ⟨w.heap.size + 1, 2, none⟩ = some (.slice ar nr cr) := K2.out.cell rfl
  go_wp2_with (at_builtin; refine append_big rfl (.tmp 19) (.tmp 21) rfl (w.heap.size + 1 + 1 + 1) (.slice a6 m6 c6) m6 (bv xo) rfl O6.out (.slice ar nr cr) nr (bv r) rfl ((HR.out.keep BG.out).srv) (by rw [bv_length]; exact hlr.out) (bv_one _) (by omega) hnr (by omega) ?_)
  intro v7 w7 hown7 hgrow7 _
  have O7 := Hid.mk' hown7
  have hge : ∀ k, Value.ownBlock (.slice a6 m6 c6) = some k → w.heap.size + 1 + 1 + 1 ≤ k := fun k hk => (O6.out.lt k hk).1
  have BH : Hid (Below (w.heap.size + 1 + 1 + 1) w6 w7) := (Below.refl _ _).grown hgrow7 (by omega) hge
  have K1 := Hid.mk' (Blk.lowkeep K1.out BH.out (by omega))
  have K2 := Hid.mk' (Blk.lowkeep K2.out BH.out (by omega))
  have K3 := Hid.mk' (Blk.lowkeep K3.out BH.out (by omega))
  have BI := Hid.mk' (BG.out.trans (BH.out.mono (by omega)))
  have hs7 : w.heap.size + 1 + 1 + 1 ≤ w7.heap.size := by have := BH.out.size; omega
  clear hown7 hgrow7 hge BH
  rw [← bv_append] at O7
  obtain ⟨a7, c7, hv7⟩ := own_shape O7.out
  subst hv7
  clear r2
  have C2 := Hid.mk' (withLineEnd_any (w.heap.size + 1 + 1 + 1) (.slice a7 (m6 + nr) c7) (m6 + nr) (xo ++ r) w7 O7.out hs7 (by omega))
  go_wp2_with fail
  refine C2.out.mono ?_
  rintro e w8 ⟨v8, rfl, hO8, hb8⟩
  have O8 := Hid.mk' hO8
  obtain ⟨hxo, hm6, hbl, hbl2⟩ := HX.out
  rw [hbl, hbl2] at O8
  clear hbl hbl2 hxo hm6
  have K3 := Hid.mk' (Blk.lowkeep K3.out hb8 (by omega))
  have BJ := Hid.mk' (BI.out.trans (hb8.mono (by omega)))
  obtain ⟨m8, hm8⟩ : ∃ m, m = (bht true true o r).length := ⟨_, rfl⟩
  rw [← hm8] at O8
  have HM := Hid.mk' hm8
  clear hm8 hO8 hb8 BI O7 C2
  obtain ⟨a8, c8, hv8⟩ := own_shape O8.out
  subst hv8
  have q0 : w8.cell? ⟨w.heap.size + 1 + 1, 0, none⟩ = some (.bool false) := K3.out.cell rfl
  have q1 : w8.cell? ⟨w.heap.size + 1 + 1, 1, none⟩ = some (.bool false) := K3.out.cell rfl
  have q2 : w8.cell? ⟨w.heap.size + 1 + 1, 2, none⟩ = some (.slice none 0 0) := K3.out.cell rfl
  have g0 := K3.out.frozen 0
  have g1 := K3.out.frozen 1
  have g2 := K3.out.frozen 2
  have hlv := ld24 (((K3.out.set (j := 0) (.bool true)).set (j := 1) (.bool true)).set (j := 2) (.slice a8 m8 c8))
  go_wp2
  exact bodyPost_ret (v := .agg #[.bool true, .bool true, .slice a8 m8 c8]) (by simp [results, Try.results31, asAddr, hlv]) rfl ⟨_, _, _, HM.out, rfl, own_lower (own_set (own_set (own_set O8.out (by omega)) (by omega)) (by omega)) (by omega), bset (bset (bset BJ.out _ (by omega)) _ (by omega)) _ (by omega)⟩
theorem behind_any (so lo sr lr : Bool) (ao ar : Option Addr) (no co nr cr : Nat) (o r : List UInt8) (w : World) (HO : Hid (Tx w ao no co o)) (HR : Hid (Tx w ar nr cr r)) (hno : no ≤ 140737488355328) (hnr : nr ≤ 140737488355328) (hsum : no + nr + 2 ≤ 150000000000000) :
    Calls Try.prog 31 #[.agg #[.bool so, .bool lo, .slice ao no co], .agg #[.bool sr, .bool lr, .slice ar nr cr]] w fun e w' => ∃ a' c' m', m' = (bht lo lr o r).length ∧ e = .returned (.agg #[.bool true, .bool (lo || lr), .slice a' m' c']) ∧
      w'.ownsRow w.heap.size 5 1 (.slice a' m' c') m' (bv (bht lo lr o r)) ∧ Below w.heap.size w w' := by
  cases lo <;> cases lr
  · exact behind_ff so sr ao ar no co nr cr o r w HO HR hno hnr hsum
  · exact behind_ft so sr ao ar no co nr cr o r w HO HR hno hnr hsum
  · exact behind_tf so sr ao ar no co nr cr o r w HO HR hno hnr hsum
  · exact behind_tt so sr ao ar no co nr cr o r w HO HR hno hnr hsum
end Go.Proofs.Ytienamngmalkaaa
