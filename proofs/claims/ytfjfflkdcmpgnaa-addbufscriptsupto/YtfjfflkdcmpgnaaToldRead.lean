/- The contract of quoinlaw01.told for Read: the answers are the reference's, and two new lists go into the list of lists. -/
import Derived.Test.YtfjfflkdcmpgnaaTold
namespace Go.Proofs.Ytfjfflkdcmpgnaa
open Go.RowKit

/-- what Read answers -/
def rdL (s o l : Int) (O A : List UInt8) : List UInt8 := if hdB s o l O A = true then cutL s o l O A else []
theorem rdL_le (s o l : Int) (O A : List UInt8) : (rdL s o l O A).length ≤ (which s O A).length := by
  unfold rdL cutL; split
  · simp [List.length_take, List.length_drop]; omega
  · simp
theorem read_all (p : Option Addr) (s o l : Int) (O A : List UInt8) (base : Nat) (w : World) (h1 : -9223372036854775808 ≤ l) (h2 : l ≤ 9223372036854775807) (hbig : (which s O A).length ≤ 140737488355328) (h : Bf w base p O A) :
    Calls Try.prog 20 #[.pointer p, .agg #[.int .i64 s, .int .i64 o, .int .i64 l]] w fun e w' => ∃ ap cp, e = .returned (.tuple #[.slice ap (rdL s o l O A).length cp, .int .i64 (lnE s o l O A)]) ∧ w'.ownsRow w.heap.size 5 1 (.slice ap (rdL s o l O A).length cp) (rdL s o l O A).length (bv (rdL s o l O A)) ∧ Below w.heap.size w w' := by
  cases hd : hdB s o l O A with
  | false =>
    have e1 : rdL s o l O A = [] := by unfold rdL; rw [hd]; simp
    have e2 : lnE s o l O A = 10 := by unfold lnE; rw [hd]; simp
    rw [e1, e2]
    refine (read_no p s o l O A base w h1 h2 hd h).mono ?_
    rintro e w' ⟨rfl, hb⟩
    exact ⟨none, 0, rfl, World.ownsRow_nil _ _ _ _, hb⟩
  | true =>
    have e1 : rdL s o l O A = cutL s o l O A := by unfold rdL; rw [if_pos hd]
    have e2 : lnE s o l O A = 0 := by unfold lnE; rw [if_pos hd]
    rw [e1, e2]
    obtain ⟨o', l', rfl, rfl, hs, hh, _⟩ := hd_parts hd
    rw [cutL_length hh]
    exact read_yes p s o' l' O A base w hs hh (by omega) h
theorem refRead_all (a0 a1 : Option Addr) (c0 c1 : Nat) (O A : List UInt8) (base : Nat) (s o l : Int) (w : World) (h1 : -9223372036854775808 ≤ o) (h2 : o ≤ 9223372036854775807) (hbig : (which s O A).length ≤ 140737488355328)
    (hO : w.ownsRow base 5 1 (.slice a0 O.length c0) O.length (bv O)) (hA : w.ownsRow base 5 1 (.slice a1 A.length c1) A.length (bv A)) :
    Calls Try.prog 26 #[.slice a0 O.length c0, .slice a1 A.length c1, .agg #[.int .i64 s, .int .i64 o, .int .i64 l]] w fun e w' => ∃ ap cp, e = .returned (.tuple #[.slice ap (rdL s o l O A).length cp, .int .i64 (lnE s o l O A)]) ∧ w'.ownsRow w.heap.size 5 1 (.slice ap (rdL s o l O A).length cp) (rdL s o l O A).length (bv (rdL s o l O A)) ∧ Below w.heap.size w w' := by
  cases hd : hdB s o l O A with
  | false =>
    have e1 : rdL s o l O A = [] := by unfold rdL; rw [hd]; simp
    have e2 : lnE s o l O A = 10 := by unfold lnE; rw [hd]; simp
    rw [e1, e2]
    refine (refRead_no a0 a1 c0 c1 O A s o l w h1 h2 hd).mono ?_
    rintro e w' ⟨rfl, hb⟩
    exact ⟨none, 0, rfl, World.ownsRow_nil _ _ _ _, hb⟩
  | true =>
    have e1 : rdL s o l O A = cutL s o l O A := by unfold rdL; rw [if_pos hd]
    have e2 : lnE s o l O A = 0 := by unfold lnE; rw [if_pos hd]
    rw [e1, e2]
    obtain ⟨o', l', rfl, rfl, hs, hh, _⟩ := hd_parts hd
    rw [cutL_length hh]
    exact refRead_yes a0 a1 c0 c1 O A base s o' l' w hs hh (by omega) hO hA

theorem row1_set (w : World) (b : Nat) (x v : Value) (t : Nat) (h : RowAt w b #[x] t) : RowAt (w.setCell ⟨b, 0, none⟩ v) b #[v] t := by
  unfold RowAt at *; simp [World.setCell, Array.getElem?_modify, h]

/-- What told leaves behind a Read. -/
structure ToldLeft (w w' : World) (base bl n : Nat) (vl vl' : Value) (xs : List Value) (vp vq : Value) (k : Nat) : Prop where
  here : RowAt w' bl #[vl'] 31
  list : w'.ownsRow base 22 1 vl' (n + 2) (xs ++ [vp, vq])
  one : ∃ ys, w'.ownsRow w.heap.size 5 1 vp k ys ∧ ∀ u ∈ ys, ∃ z, u = .int .u8 z
  two : ∃ ys, w'.ownsRow w.heap.size 5 1 vq k ys ∧ ∀ u ∈ ys, ∃ z, u = .int .u8 z
  apart : vp.ownBlock = none ∨ vp.ownBlock ≠ vq.ownBlock
  touch : Touch w w' bl vl.ownBlock
  fresh : vl'.ownBlock = vl.ownBlock ∨ ∃ j, vl'.ownBlock = some j ∧ w.heap.size ≤ j

theorem bv_bytes (l : List UInt8) : ∀ u ∈ bv l, ∃ z, u = .int .u8 z := by
  intro u hu; obtain ⟨x, _, rfl⟩ := List.mem_map.1 hu; exact ⟨_, rfl⟩

theorem told_world {w w1 w2 w3 w4 : World} {base bl n k : Nat} {vl vl' vp vq : Value} {xs : List Value} {L : List UInt8} {x : Obj}
    (hR : RowAt w bl #[vl] 31) (hV : w.ownsRow base 22 1 vl n xs) (L1 : Below w.heap.size w w1) (hp : w1.ownsRow w.heap.size 5 1 vp k (bv L)) (L2 : Below w1.heap.size w1 w2) (hq : w2.ownsRow w1.heap.size 5 1 vq k (bv L)) (L3 : Below w2.heap.size w2 w3)
    (hown : w4.ownsRow base 22 1 vl' (n + 2) (xs ++ [vp, vq])) (hgrow : (w3.alloc x).grownBy w4 vl.ownBlock) (hat : vl'.ownBlock = vl.ownBlock ∨ vl'.ownBlock = some (w3.heap.size + 1)) :
    ToldLeft w (w4.setCell ⟨bl, 0, none⟩ vl') base bl n vl vl' xs vp vq k := by
  have z1 := L1.size
  have z2 := L2.size
  have z3 := L3.size
  have hlt := hR.lt
  have B13 : Below w1.heap.size w1 w3 := L2.trans (L3.mono z2)
  have B03 : Below w.heap.size w w3 := L1.trans (B13.mono z1)
  have R3 : RowAt (w3.alloc x) bl #[vl] 31 := (hR.keep B03).alloc x
  have V3 := (own_keep hV B03).alloc x
  have hne : some bl ≠ vl.ownBlock := block_apart V3 R3 (by decide)
  have R4 : RowAt w4 bl #[vl] 31 := by unfold RowAt; rw [hgrow.block bl (by simp; omega) hne]; exact R3
  have P3 := (own_keep hp B13).alloc x
  have Q3 := (own_keep hq L3).alloc x
  have P4 := P3.kept hgrow (own_apart P3 V3 (by decide))
  have Q4 := Q3.kept hgrow (own_apart Q3 V3 (by decide))
  have g := grown_setCell w4 ⟨bl, 0, none⟩ vl'
  have hz := hgrow.size
  simp at hz
  refine ⟨row1_set w4 bl vl vl' 31 R4, hown.kept g (.inr (Ne.symm (block_apart hown R4 (by decide)))), ⟨_, P4.kept g (.inr (Ne.symm (block_apart P4 R4 (by decide)))), bv_bytes L⟩, ⟨_, own_lower (Q4.kept g (.inr (Ne.symm (block_apart Q4 R4 (by decide))))) z1, bv_bytes L⟩, ?_, ⟨hgrow.os.trans B03.os, hgrow.tape.trans B03.tape, hgrow.output.trans B03.output, by simp; omega, ?_⟩, ?_⟩
  · rcases hv : vp.ownBlock with _ | j
    · exact .inl rfl
    · have h1 := (hp.lt j hv).2
      refine .inr (fun e => ?_)
      have h2 := (hq.lt j e.symm).1
      omega
  · intro j hj h1 h2
    rw [Below.heap_setCell _ _ _ _ (by simpa using h1), hgrow.block j (by simp; omega) h2, Below.heap_alloc _ _ _ (by omega), B03.block j hj]
  · rcases hat with e | e
    · exact .inl e
    · exact .inr ⟨_, e, by omega⟩

/-- a list of bytes stays to be read behind the append to the list of lists and the store of its value -/
theorem told_rd {w3 w4 : World} {base base' bl n k : Nat} {vl vl' v : Value} {xs : List Value} {L : List UInt8} {x : Obj}
    (R3 : RowAt w3 bl #[vl] 31) (V3 : w3.ownsRow base 22 1 vl n xs) (hv : w3.ownsRow base' 5 1 v k (bv L)) (hgrow : (w3.alloc x).grownBy w4 vl.ownBlock) :
    Rd (w4.setCell ⟨bl, 0, none⟩ vl') v L ∧ w4.cell? ⟨bl, 0, none⟩ = some vl ∧ w4.frozen? ⟨bl, 0, none⟩ = false := by
  have R3' := R3.alloc x
  have V3' := V3.alloc x
  have hv' := hv.alloc x
  have R4 : RowAt w4 bl #[vl] 31 := by unfold RowAt; rw [hgrow.block bl R3'.lt (block_apart V3' R3' (by decide))]; exact R3'
  have h4 := hv'.kept hgrow (own_apart hv' V3' (by decide))
  have h5 := h4.kept (grown_setCell w4 ⟨bl, 0, none⟩ vl') (.inr (Ne.symm (block_apart h4 R4 (by decide))))
  exact ⟨(own_rdB h5).rd, by rw [R4.cell]; rfl, R4.fz 0⟩

set_option maxRecDepth 100000 in
set_option maxHeartbeats 1000000 in
theorem told1 (p : Option Addr) (a0 a1 : Option Addr) (c0 c1 : Nat) (vP : Value) (bl : Nat) (vl : Value) (n : Nat) (xs : List Value) (O A : List UInt8) (base : Nat) (s o l i : Int) (w : World) (h1 : -9223372036854775808 ≤ l) (h2 : l ≤ 9223372036854775807) (h3 : -9223372036854775808 ≤ o) (h4 : o ≤ 9223372036854775807) (bO : O.length ≤ 16777216) (bA : A.length ≤ 16777216) (bn : n ≤ 16777216) (hbase : base ≤ w.heap.size)
    (hB : Hid (Bf w base p O A)) (hO : Hid (w.ownsRow base 5 1 (.slice a0 O.length c0) O.length (bv O))) (hA : Hid (w.ownsRow base 5 1 (.slice a1 A.length c1) A.length (bv A))) (hR : Hid (RowAt w bl #[vl] 31)) (hV : Hid (w.ownsRow base 22 1 vl n xs)) :
    Calls Try.prog 12 #[.pointer p, .agg #[.slice a0 O.length c0, .slice a1 A.length c1], .agg #[.int .i64 1, vP, .int .i64 s, .int .i64 o, .int .i64 l, .int .i64 i], .pointer (some ⟨bl, 0, none⟩)] w fun e w' => ∃ vl' vp vq k, e = .returned (.bool true) ∧ ToldLeft w w' base bl n vl vl' xs vp vq k ∧ k ≤ 16777216 := by
  have bW := which_le s O A 16777216 bO bA
  obtain ⟨i0, hi, hz0, hz1, hz2⟩ := info_parts info22
  go_enter Try.func12, Try.ntmps12
  go_wp2_with fail
  refine (read_all p s o l O A base _ h1 h2 (by omega) ((hB.out.alloc _).alloc _)).mono ?_
  rintro e w1 ⟨ap, cp, rfl, hp, hb⟩
  have K1 := ((RowAt.new w #[.slice a0 O.length c0, .slice a1 A.length c1] 30).alloc (.cells #[.int .i64 1, vP, .int .i64 s, .int .i64 o, .int .i64 l, .int .i64 i] 35)).keep hb
  have S1 := (by simpa using RowAt.new (w.alloc (.cells #[.slice a0 O.length c0, .slice a1 A.length c1] 30)) #[.int .i64 1, vP, .int .i64 s, .int .i64 o, .int .i64 l, .int .i64 i] 35 : RowAt ((w.alloc (.cells #[.slice a0 O.length c0, .slice a1 A.length c1] 30)).alloc (.cells #[.int .i64 1, vP, .int .i64 s, .int .i64 o, .int .i64 l, .int .i64 i] 35)) (w.heap.size + 1) _ _).keep hb
  have O1 : Hid (w1.ownsRow base 5 1 (.slice a0 O.length c0) O.length (bv O)) := own_keep ((hO.out.alloc _).alloc _) hb
  have A1 : Hid (w1.ownsRow base 5 1 (.slice a1 A.length c1) A.length (bv A)) := own_keep ((hA.out.alloc _).alloc _) hb
  have L1 : Hid (Below w.heap.size w w1) := (bAlloc (bAlloc (Below.refl _ _) _) _).trans (hb.mono (by simp; omega))
  have P1 : Hid (w1.ownsRow w.heap.size 5 1 (.slice ap (rdL s o l O A).length cp) (rdL s o l O A).length (bv (rdL s o l O A))) := own_lower hp (by simp; omega)
  have B1 : Hid (Bf w1 base p O A) := ((hB.out.alloc _).alloc _).keep hb
  clear hb hp
  obtain ⟨sc2, sc3, sc4⟩ : w1.cell? ⟨w.heap.size + 1, 2, none⟩ = some (.int .i64 s) ∧ w1.cell? ⟨w.heap.size + 1, 3, none⟩ = some (.int .i64 o) ∧ w1.cell? ⟨w.heap.size + 1, 4, none⟩ = some (.int .i64 l) := ⟨by rw [S1.cell]; rfl, by rw [S1.cell]; rfl, by rw [S1.cell]; rfl⟩
  go_wp2_with fail
  refine (read_all p s o l O A base _ h1 h2 (by omega) B1.out).mono ?_
  rintro e w2 ⟨aq, cq, rfl, hq, hb⟩
  have L2 : Hid (Below w1.heap.size w1 w2) := hb
  have Q2 : Hid (w2.ownsRow w1.heap.size 5 1 (.slice aq (rdL s o l O A).length cq) (rdL s o l O A).length (bv (rdL s o l O A))) := hq
  have K2 := K1.keep hb
  have S2 := S1.keep hb
  clear hb hq K1 S1 sc2 sc3 sc4
  obtain ⟨kc0, kc1⟩ : w2.cell? ⟨w.heap.size, 0, none⟩ = some (.slice a0 O.length c0) ∧ w2.cell? ⟨w.heap.size, 1, none⟩ = some (.slice a1 A.length c1) := ⟨by rw [K2.cell]; rfl, by rw [K2.cell]; rfl⟩
  obtain ⟨sc2, sc3, sc4⟩ : w2.cell? ⟨w.heap.size + 1, 2, none⟩ = some (.int .i64 s) ∧ w2.cell? ⟨w.heap.size + 1, 3, none⟩ = some (.int .i64 o) ∧ w2.cell? ⟨w.heap.size + 1, 4, none⟩ = some (.int .i64 l) := ⟨by rw [S2.cell]; rfl, by rw [S2.cell]; rfl, by rw [S2.cell]; rfl⟩
  go_wp2_with fail
  refine (refRead_all a0 a1 c0 c1 O A base s o l _ h3 h4 (by omega) (own_keep O1.out L2.out) (own_keep A1.out L2.out)).mono ?_
  rintro e w3 ⟨at', ct, rfl, ht, hb⟩
  have L3 : Hid (Below w2.heap.size w2 w3) := hb
  have T3 : Hid (w3.ownsRow w2.heap.size 5 1 (.slice at' (rdL s o l O A).length ct) (rdL s o l O A).length (bv (rdL s o l O A))) := ht
  have B03 : Hid (Below w.heap.size w w3) := (L1.out.trans (L2.out.mono L1.out.size)).trans (L3.out.mono (Nat.le_trans L1.out.size L2.out.size))
  have R3 := hR.out.keep B03.out
  have c3 : w3.cell? ⟨bl, 0, none⟩ = some vl := by rw [R3.cell]; rfl
  clear hb ht kc0 kc1 sc2 sc3 sc4 K2 S2
  obtain ⟨av, cv, rfl⟩ := own_shape hV.out
  go_wp2_with (at_builtin; refine wpList_append_own_at _ rfl (.tmp 59) (.tmp 62) 31 rfl base 22 i0 (.slice none 0 0) 1 24 Try.underlying31 hi hz0 hz1 hz2 rfl (by decide) (.slice av n cv) n xs rfl ((own_keep hV.out B03.out).alloc _) ⟨w3.heap.size, 0, none⟩ 2 2 [.slice ap (rdL s o l O A).length cp, .slice aq (rdL s o l O A).length cq] rfl rfl ?qd2 ?qd3 ?qd4 ?qd5 ?qd6 ?_)
  case qd2 => exact fun k u hk => lit_cells w3 _ 22 k u hk
  case qd3 => intro u hu; simp at hu; rcases hu with rfl | rfl <;> rfl
  case qd4 => unfold maxLen; omega
  case qd5 => omega
  case qd6 => have := B03.out.size; simp; omega
  intro vl' w4 hown hgrow _ hat
  have FIN : Hid (ToldLeft w (w4.setCell ⟨bl, 0, none⟩ vl') base bl n (.slice av n cv) vl' xs (.slice ap (rdL s o l O A).length cp) (.slice aq (rdL s o l O A).length cq) (rdL s o l O A).length) := told_world hR.out hV.out L1.out P1.out L2.out Q2.out L3.out hown hgrow hat
  have V3 := own_keep hV.out B03.out
  obtain ⟨RP, c4, f4⟩ := told_rd (vl' := vl') R3 V3 (own_keep (own_keep P1.out L2.out) L3.out) hgrow
  obtain ⟨RQ, -, -⟩ := told_rd (vl' := vl') R3 V3 (own_keep Q2.out L3.out) hgrow
  obtain ⟨RT, -, -⟩ := told_rd (vl' := vl') R3 V3 T3.out hgrow
  obtain ⟨av', cv', rfl⟩ := own_shape hown
  have HP : Hid (Rd _ _ _) := RP
  have HQ : Hid (Rd _ _ _) := RQ
  have HT : Hid (Rd _ _ _) := RT
  clear RP RQ RT hown hgrow hat V3 R3 c3 hi hz0 hz1 hz2
  go_wp2_with fail
  refine (same_yes _ _ (rdL s o l O A) _ HP.out HT.out).mono ?_
  rintro e w6 ⟨rfl, rfl⟩
  go_wp2_with fail
  refine (same_yes _ _ (rdL s o l O A) _ HQ.out HT.out).mono ?_
  rintro e w6 ⟨rfl, rfl⟩
  go_wp2
  go_ret
  exact ⟨_, _, _, _, rfl, FIN.out, Nat.le_trans (rdL_le s o l O A) bW⟩
end Go.Proofs.Ytfjfflkdcmpgnaa
