/- The law awake; PinsNames, walked. -/
import Derived.Test.YtdoheblkhnmmiaaCrs
import Derived.Lib.SlBytesConst
namespace Go.Proofs.Ytdoheblkhnmmiaa
open Go.RowKit

set_option maxRecDepth 8000
section
variable {ops : Array Oper} {rest : List Oper} {op : Oper} {a : Act} {w : World} {Q : Exit → Act → World → Prop} {L M : List Int} {B : Nat}
theorem wl_load24g (x : Operand) (hw : Region.wanted op (yielded ops a.tmps) = true) (ho : op.op = .load 24 x) (hx : a.eval x = .pointer (some ⟨B, 0, none⟩)) (hL : L.length = 27) (h : Blk w B 24 (mk L)) (hr : wpList Try.prog ops Q rest (a.put op.dst (.agg (mk L))) w) : wpList Try.prog ops Q (op :: rest) a w := by
  simp only [wpList, hw, if_true]
  exact .inl (wp_load_mid 24 x ho B 0 hx (ml L) _ (blk_range (pre := []) (mid := ml L) (post := []) (by simpa [mk] using h)) Try.underlying24 rfl (by rw [info24, ml_len, hL]) hr)
end
theorem bhd5 : bhd 5 5 0 2 = 7 := by
  unfold bhd
  rw [if_neg (by omega), if_pos (by rw [IntWalk.wrap64_in _ (by omega)]; omega)]
  rw [show wrap64 (5 + ((2 : Nat) : Int)) = 7 from IntWalk.wrap64_in _ (by omega)]
  exact IntWalk.wrap64_in _ (by omega)
theorem nix98 : nix 98 = some 1 := rfl
theorem awake_walk (N1 N2 : List Int) (w : World) (hN : N1.length = 27) (h1 : N1[1]? = some 5) (h26 : N1[26]? = some (-1)) (HS : Hid (setP nm 98 5 = (N1, 0))) (H2 : Hid (shl N1 5 0 2 = N2)) (HG : Hid (getP N2 98 = (7, 0))) :
    Calls Try.prog 10 #[] w fun e w' => e = .returned (.bool true) ∧ Below w.heap.size w w' := by
  have hz := z24
  have CN := Hid.mk' (none_any w)
  have CS := Hid.mk' (fun W => set_any nm 98 5 W rfl (by decide))
  unfold sE at CS
  rw [HS.out] at CS
  have hnm : nm.length = 27 := rfl
  generalize nm = O at *
  go_enter Try.func10, Try.ntmps10
  go_wp2_with fail
  refine CN.out.mono ?_
  rintro e w1 ⟨rfl, hb1⟩
  have L1 := Hid.mk' hb1
  clear hb1 CN
  go_wp2_with fail
  refine (CS.out w1).mono ?_
  rintro e w2 ⟨rfl, hb2⟩
  have L2 := Hid.mk' (bT L1.out hb2)
  clear hb2 CS L1
  have BZ := Hid.mk' (Blk.new w2 24 (mk zm))
  have BN : Hid (Blk (put24 (w2.alloc (.cells (mk zm) 24)) w2.heap.size N1) w2.heap.size 24 (mk N1)) := BZ.out.put24 hN rfl
  have L3 : Hid (Below w.heap.size w (put24 (w2.alloc (.cells (mk zm) 24)) w2.heap.size N1)) := below_put24 (bAlloc L2.out _) L2.out.size _
  go_upto_region 2 with (refine wl_store24 (B := w2.heap.size) (L := N1) (.tmp 1) (.tmp 8) rfl rfl rfl rfl hN (by rfl) BZ.out ?_)
  generalize put24 (w2.alloc (.cells (mk zm) 24)) w2.heap.size N1 = w3 at *
  generalize w2.heap.size = p at *
  clear BZ L2
  have CH := Hid.mk' (fun W p1 c1 p2 c2 => shift_any N1 5 p1 p2 0 c1 2 c2 W hN)
  rw [H2.out] at CH
  have hN2 : Hid (N2.length = 27) := by unfold Hid; rw [← H2.out, shl_len]; exact hN
  have CG := Hid.mk' (fun W => get_any N2 98 W hN2.out (by decide))
  unfold gE at CG
  rw [HG.out] at CG
  have hcv := Lib.run_convert_bytes_const (P := Try.prog) w3 40 5 #[.int .u8 97, .int .u8 98] 2 2 Try.underlying40 Try.underlying5
  go_wp2_with (first | refine wl_load24 (B := p) (.tmp 1) rfl rfl rfl hN BN.out ?_ | fail)
  have B4 := Hid.mk' (bAlloc (Below.refl _ w3) (.cells #[.int .u8 97, .int .u8 98] 5 (2, 3)))
  clear hcv
  have N4 := Hid.mk' (BN.out.keep B4.out)
  have L4 := Hid.mk' (bT L3.out B4.out)
  refine (CH.out _ _ _ _ _).mono ?_
  rintro e w5 ⟨rfl, hb5⟩
  have N5 := Hid.mk' (N4.out.keep hb5)
  have L5 := Hid.mk' (bT L4.out hb5)
  clear CH B4 N4 L4 hb5 L3 BN
  go_wp2_with fail
  refine (CG.out _).mono ?_
  rintro e w6 ⟨rfl, hb6⟩
  have N6 := Hid.mk' (N5.out.keep hb6)
  have L6 := Hid.mk' (bT L5.out hb6)
  have c1 : w6.cell? ⟨p, 1, none⟩ = some (.int .i64 5) := N6.out.mkAt h1
  have c26 : w6.cell? ⟨p, 26, none⟩ = some (.int .i64 (-1)) := N6.out.mkAt h26
  clear CG hb6 N5 L5
  go_wp2
  go_ret
  exact ⟨rfl, L6.out⟩
theorem awake_any (w : World) : Calls Try.prog 10 #[] w fun e w' => e = .returned (.bool true) ∧ Below w.heap.size w w' := by
  refine awake_walk (nm.set 1 5) _ w rfl rfl rfl rfl rfl ?_
  show getP _ 98 = (7, 0)
  unfold getP
  rw [nix98]
  dsimp only
  have : (shl (nm.set 1 5) 5 0 2).getD 1 0 = 7 := by
    rw [List.getD_eq_getElem?_getD, shl, List.getElem?_map, show (nm.set 1 5)[1]? = some 5 from rfl]
    exact bhd5
  rw [this]
  rfl
set_option maxHeartbeats 4000000 in
theorem pinsNames_walk (L : List Int) (x : Nat) (at' : Int) (w : World) (hL : L.length = 27) (hx : x < 256) :
    Calls Try.prog 3 #[.agg (mk L), .int .u8 (x : Int), .int .i64 at'] w fun e w' => e = .returned (.bool true) ∧ Below w.heap.size w w' := by
  have hz := z24
  generalize hW1 : w.alloc (.cells (mk L) 24) = W1
  have B1 : Hid (Blk W1 w.heap.size 24 (mk L)) := by subst hW1; exact Blk.new w 24 _
  have L1 : Hid (Below w.heap.size w W1) := by subst hW1; exact bAlloc (Below.refl _ _) _
  have CA := Hid.mk' (awake_any W1)
  have CN := Hid.mk' (fun W => none_any W)
  have CR := Hid.mk' (fun W => rnone_any W)
  have hnn := fun W => ne24 W nm rfl
  have hnm : nm.length = 27 := rfl
  generalize nm = O at *
  go_enter Try.func3, Try.ntmps3
  go_upto_region 1 with fail
  clear hW1
  go_wp2_with fail
  refine CA.out.mono ?_
  rintro e w1 ⟨rfl, hb1⟩
  have B2 := Hid.mk' (B1.out.keep hb1)
  have L2 := Hid.mk' (bT L1.out hb1)
  clear hb1 CA B1 L1
  go_wp2_with fail
  refine (CN.out _).mono ?_
  rintro e w2 ⟨rfl, hb2⟩
  have B3 := Hid.mk' (B2.out.keep hb2)
  have L3 := Hid.mk' (bT L2.out hb2)
  clear hb2 CN B2 L2
  go_wp2_with fail
  refine (CR.out _).mono ?_
  rintro e w3 ⟨rfl, hb3⟩
  have B4 := Hid.mk' (B3.out.keep hb3)
  have L4 := Hid.mk' (bT L3.out hb3)
  clear hb3 CR B3 L3
  have CS := Hid.mk' (fun W => set_any L x at' W hL hx)
  have CT := Hid.mk' (fun W => rset_any L x at' W hL hx)
  have CG := Hid.mk' (fun W => get_any L x W hL hx)
  have CH := Hid.mk' (fun W => rget_any L x W hL hx)
  unfold sE at CS CT
  unfold gE at CG CH
  have hS := setP_len L x at' hL
  generalize (setP L x at').1 = S1 at *
  generalize (setP L x at').2 = S2 at *
  generalize (getP L x).1 = G1 at *
  generalize (getP L x).2 = G2 at *
  go_upto_region 3 with fail
  go_wp2_with (first | refine wl_load24 (B := w.heap.size) (.tmp 3) rfl rfl rfl hL B4.out ?_ | fail)
  refine (CT.out _).mono ?_
  rintro e w4 ⟨rfl, hb4⟩
  have B5 := Hid.mk' (B4.out.keep hb4)
  have L5 := Hid.mk' (bT L4.out hb4)
  clear hb4 CT B4 L4
  have BZ := Hid.mk' (Blk.new w4 24 (mk zm))
  obtain ⟨hB6, hb6⟩ := boxed24 (w := w4) hS
  have B6 := Hid.mk' (B5.out.keep hb6)
  have L6 := Hid.mk' (bT L5.out hb6)
  have W6 := Hid.mk' hB6
  clear hB6 hb6 B5 L5
  go_upto_region 4 with (refine wl_store24 (B := w4.heap.size) (L := S1) (.tmp 7) (.tmp 27) rfl rfl rfl rfl hS (by rfl) BZ.out ?_)
  generalize put24 (w4.alloc (.cells (mk zm) 24)) w4.heap.size S1 = w5 at *
  generalize w4.heap.size = p at *
  clear BZ
  go_wp2_with (first | refine wl_load24 (B := w.heap.size) (.tmp 3) rfl rfl rfl hL B6.out ?_ | fail)
  refine (CS.out _).mono ?_
  rintro e w6 ⟨rfl, hb6⟩
  have B7 := Hid.mk' (B6.out.keep hb6)
  have L7 := Hid.mk' (bT L6.out hb6)
  have W7 := Hid.mk' (W6.out.keep hb6)
  clear hb6 CS B6 L6 W6
  have BZ := Hid.mk' (Blk.new w6 24 (mk zm))
  obtain ⟨hB8, hb8⟩ := boxed24 (w := w6) hS
  have B8 := Hid.mk' (B7.out.keep hb8)
  have L8 := Hid.mk' (bT L7.out hb8)
  have W8 := Hid.mk' (W7.out.keep hb8)
  have V8 := Hid.mk' hB8
  clear hB8 hb8 B7 L7 W7
  go_upto_region 5 with (refine wl_store24 (B := w6.heap.size) (L := S1) (.tmp 9) (.tmp 34) rfl rfl rfl rfl hS (by rfl) BZ.out ?_)
  generalize put24 (w6.alloc (.cells (mk zm) 24)) w6.heap.size S1 = w7 at *
  generalize w6.heap.size = q at *
  clear BZ
  go_wp2_with (first | refine wl_load24 (B := w.heap.size) (.tmp 3) rfl rfl rfl hL B8.out ?_ | fail)
  refine (CH.out _).mono ?_
  rintro e w8 ⟨rfl, hb9⟩
  have B9 := Hid.mk' (B8.out.keep hb9)
  have L9 := Hid.mk' (bT L8.out hb9)
  have W9 := Hid.mk' (W8.out.keep hb9)
  have V9 := Hid.mk' (V8.out.keep hb9)
  clear hb9 CH B8 L8 W8 V8
  go_wp2_with (first | refine wl_load24 (B := w.heap.size) (.tmp 3) rfl rfl rfl hL B9.out ?_ | fail)
  refine (CG.out _).mono ?_
  rintro e w9 ⟨rfl, hb9⟩
  have La := Hid.mk' (bT L9.out hb9)
  have Wa := Hid.mk' (W9.out.keep hb9)
  have Va := Hid.mk' (V9.out.keep hb9)
  clear hb9 CG B9 L9 W9 V9 hnn
  have hee := fun W => eq24 W S1 hS
  go_upto_region 7 with fail
  go_wp2_with (first | refine wl_load24 (B := q) (.tmp 9) rfl rfl rfl hS Va.out ?_ | refine wl_load24 (B := p) (.tmp 7) rfl rfl rfl hS Wa.out ?_)
  go_ret
  exact ⟨rfl, La.out⟩
end Go.Proofs.Ytdoheblkhnmmiaa
