/- The law SheetNil, walked: at any number and any list it answers true and turns nothing. -/
import Derived.Test.YtpifjghhlcjedaaPm20
namespace Go.Proofs.Ytpifjghhlcjedaa
open Go.RowKit

theorem Pieces_nil (w : World) : Calls Try.prog 31 #[.pointer none] w fun e w' => ∃ ao cap, e = .returned (.slice ao 0 cap) ∧ Below w.heap.size w w' :=
  (Pieces_any none none 0 (Tr.mk none) w (nilT w) (nilA w) (by simp [Tr.size])).mono fun _ _ ⟨ao, cap, h1, _, h3⟩ => ⟨ao, cap, h1, h3⟩
theorem Rows_nil (w : World) : Calls Try.prog 30 #[.pointer none] w fun e w' => ∃ ao cap, e = .returned (.slice ao 0 cap) ∧ Below w.heap.size w w' :=
  (sRows_any none none 0 (Tr.mk none) w (nilT w) (nilA w) (show (Tr.mk none).size ≤ 2097152 by simp [Tr.size])).mono fun _ _ ⟨ao, cap, h1, _, h3⟩ => ⟨ao, cap, h1, h3⟩

theorem bT {w a b : World} (h : Below w.heap.size w a) (g : Below a.heap.size a b) : Below w.heap.size w b := h.trans (g.mono h.size)

set_option maxHeartbeats 4000000 in
theorem sheetNil_any (x : Int) (v : Value) (w : World) : Calls Try.prog 8 #[.int .i64 x, v] w fun e w' => e = .returned (.bool true) ∧ Below w.heap.size w w' := by
  have HA := hid awake_any
  have HI := hid Insert_nil
  have HD := hid Delete_nil
  have HY := hid Apply_nil
  have HB := hid Bytes_nil
  have HL := hid Len_nil
  have HN := hid Lines_nil
  have HE := hid edits_nil
  have HP := hid Pieces_nil
  have HR := hid Rows_nil
  have HS := hid Slice_nil
  have H0 := hid Start_nil0
  have H1 := hid Start_nil1
  have K0 := hid LineOf_nil0
  have K1 := hid LineOf_nil1
  have HY0 := hid Byte_nil
  go_enter Try.func8, Try.ntmps8
  go_wp2_with (first
    | (go_at_call 25; refine (HA.out _).mono ?_; rintro e w1 ⟨rfl, b1⟩)
    | (go_at_call 41; refine (HI.out _ _ _).mono ?_; rintro e w2 ⟨rfl, b2⟩)
    | (go_at_call 42; refine (HD.out _ _ _).mono ?_; rintro e w3 ⟨rfl, b3⟩)
    | (go_at_call 46; refine (HY.out _ _).mono ?_; rintro e w4 ⟨rfl, b4⟩)
    | (go_at_call 33; refine (HB.out _).mono ?_; rintro e w5 ⟨rfl, b5⟩)
    | (go_at_call 34; refine (HL.out _).mono ?_; rintro e w6 ⟨rfl, b6⟩)
    | (go_at_call 35; refine (HN.out _).mono ?_; rintro e w7 ⟨rfl, b7⟩)
    | (go_at_call 38; refine (HE.out _).mono ?_; rintro e w8 ⟨rfl, b8⟩)
    | (go_at_call 31; refine (HP.out _).mono ?_; rintro e w9 ⟨a9, c9, rfl, b9⟩)
    | (go_at_call 30; refine (HR.out _).mono ?_; rintro e w10 ⟨a10, c10, rfl, b10⟩)
    | (go_at_call 44; refine (HS.out _).mono ?_; rintro e w11 ⟨rfl, b11⟩)
    | (go_at_call_of 47 (Value.int IntKind.i64 0); refine (H0.out _).mono ?_; rintro e w12 ⟨rfl, b12⟩)
    | (go_at_call 47; refine (H1.out _).mono ?_; rintro e w13 ⟨rfl, b13⟩)
    | (go_at_call_of 48 (Value.int IntKind.i64 0); refine (K0.out _).mono ?_; rintro e w14 ⟨rfl, b14⟩)
    | (go_at_call 49; refine (HY0.out _).mono ?_; rintro e w15 ⟨rfl, b15⟩)
    | (go_at_call 48; refine (K1.out _).mono ?_; rintro e w16 ⟨rfl, b16⟩))
  go_ret
  exact ⟨rfl, bT (bT (bT (bT (bT (bT (bT (bT (bT (bT (bT (bT (bT (bT (bT b1 b2) b3) b4) b5) b6) b7) b8) b9) b10) b11) b12) b13) b14) b15) b16⟩

end Go.Proofs.Ytpifjghhlcjedaa

/- The law SheetBack, walked. Conditions: the two lists of bytes together have at most 1048573 bytes. -/
namespace Go.Proofs.Ytpifjghhlcjedaa
open Go.RowKit

/-- A row of spans lies on where a sheet changes. -/
theorem own_chg {W W' : World} {base sb bb : Nat} {vo va : Value} {O A : List UInt8} {t : Tr} {a : Option Addr} {e : Int} (hS : Sh W base sb bb vo va O A t a e) (hc : Chg W W' sb bb va.ownBlock) {B n : Nat} {v : Value} {xs : List Value} (h : W.ownsRow B 30 3 v n xs) : W'.ownsRow B 30 3 v n xs := by
  rcases h.2 with ⟨rfl, h0⟩ | ⟨g, cap, cur, rfl, h1, h2, h3⟩
  · exact ⟨h.1, .inl ⟨rfl, h0⟩⟩
  · refine ⟨h.1, .inr ⟨g, cap, cur, rfl, h1, ?_, h3⟩⟩
    refine (hc.block g (sh_lt h2) (fun e => ?_) (fun e => ?_) (fun e => ?_)).trans h2
    · subst e; rw [hS.here] at h2; cases h2
    · subst e; rw [hS.buf.here] at h2; cases h2
    · exact Ab.own_ne hS.buf.added h2 (by decide) e

theorem ins_del (l1 l2 : List UInt8) (k : Nat) (h : k ≤ l1.length) : (l1.take k ++ (l2 ++ l1.drop k)).take k ++ (l1.take k ++ (l2 ++ l1.drop k)).drop (k + l2.length) = l1 := by
  have hk : (l1.take k).length = k := by rw [List.length_take]; omega
  have e1 : (l1.take k ++ (l2 ++ l1.drop k)).take k = l1.take k := List.take_left' hk
  have e2 : (l1.take k ++ (l2 ++ l1.drop k)).drop (k + l2.length) = l1.drop k := by rw [← List.append_assoc]; exact List.drop_left' (by rw [List.length_append, hk])
  rw [e1, e2, List.take_append_drop]

set_option maxHeartbeats 4000000 in
/-- Something is put in. -/
theorem sheetBack_some (a1 : Option Addr) (c1 : Nat) (l1 : List UInt8) (x : Int) (a2 : Addr) (c2 : Nat) (l2 : List UInt8) (w : World) (h1 : Hid (Ab.Rd w (.slice a1 l1.length c1) l1)) (h2 : Hid (Ab.Rd w (.slice (some a2) l2.length c2) l2)) (hx1 : -9223372036854775808 ≤ x) (hx2 : x ≤ 9223372036854775807) (hz : l1.length + l2.length ≤ 1048573) (hl : ((l2.length : Int) == 0) = false) :
    Calls Try.prog 6 #[.slice a1 l1.length c1, .int .i64 x, .slice (some a2) l2.length c2] w fun e w' => e = .returned (.bool true) ∧ Below w.heap.size w w' := by
  have HA := hid awake_any
  have hl2 : l2 ≠ [] := fun e => by subst e; simp at hl
  have HL2 := hid hl2
  have HP := hid (fun W => place_any x (l1.length + 1) W hx1 hx2 (by omega) (by omega))
  simp only [Int.natCast_add, Int.cast_ofNat_Int] at HP
  clear hl2
  go_enter Try.func6, Try.ntmps6
  go_wp2_with (first
    | (go_at_call 25; refine (HA.out _).mono ?_; rintro e w1 ⟨rfl, b1⟩)
    | (go_at_call 26; refine (New_any a1 c1 l1 _ (by omega) (hid (h1.out.keep b1))).mono ?_; rintro e w2 ⟨sb, bb, vo, a, t, rfl, hS, hN, b2⟩; have HS := hid hS; have HN := hid hN; have L2 := bT b1 b2; clear hS hN)
    | (go_at_call 40; refine (HP.out _).mono ?_; rintro e w3 ⟨⟨k, hk, rfl⟩, b3⟩; have L3 := bT L2 b3; have S3 := hid (HS.out.keep b3)))
  obtain ⟨o1, o2, o3, o4⟩ := HN.out.ok (by omega)
  have hsz : t.size ≤ 1 := by rw [← t.size_list]; exact o4
  have hbt : t.byt = (l1.length : Int) := by rw [byt_list, ← txt_len o2, o3]
  have O1 := hid o1
  have O2 := hid o2
  have O3 := hid o3
  have HBT := hid hbt
  have hlo := b1.size
  clear o1 o2 o3 o4 hbt b1 b2 b3 L2 HS
  refine (Pieces_any (some ⟨sb, 0, none⟩) a 0 t w3 S3.out.sht S3.out.tree (by omega)).mono ?_
  rintro e w4 ⟨ao4, cp4, rfl, hr4, hb4⟩
  have L4 := bT L3 hb4
  have S4 := hid (S3.out.keep hb4)
  have R4 := hid hr4
  clear hr4 hb4 S3
  go_wp2_with fail
  refine (Insert_some sb bb vo (.slice none 0 0) l1 [] t a 0 w1.heap.size a2 c2 l2 (k : Int) _ S4 O1 O2 (hid (by rw [O3.out]; omega)) (hid (by simp; omega)) (hid (h2.out.keep L4)) hl (by omega) (by rw [HBT.out]; omega) (by decide)).mono ?_
  rintro e w5 ⟨rfl, w4', hb4', a5, va5, t5, hput, hS5, hc5, hown5⟩
  have L4' := bT L4 hb4'
  have L5 : Below w.heap.size w w5 := Chg.below_of L4' L4'.size hc5 (Nat.le_trans hlo hS5.lo) (Nat.le_trans hlo hS5.buf.lo) (fun k hk => by cases hk)
  have R5 := hid (own_chg (S4.out.keep hb4') hc5 (Ab.own_keep R4.out hb4'))
  have hput' := hput
  obtain ⟨p1, p2, p3⟩ := hput.ok O1.out O2.out HL2.out (by rw [O3.out]; omega) (by simp; omega)
  rw [O3.out] at p3
  have hl5 : (txt l1 ([] ++ l2) t5.list).length = l1.length + l2.length := by rw [p3]; simp; omega
  have hbt5 : t5.byt = (l1.length : Int) + l2.length := by rw [byt_list, ← txt_len p2, hl5]; push_cast; rfl
  have S5 := hid hS5
  have P1 := hid p1
  have P2 := hid p2
  have P3 := hid p3
  have HL5 := hid hl5
  have HB5 := hid hbt5
  have HPT := hid hput'
  clear hput hput' hS5 hc5 hown5 p1 p2 p3 hl5 hbt5 L4' hb4' R4 S4
  have HLen := hid (sLen_any (some ⟨sb, 0, none⟩) a5 (0 + 1) t5 w5 S5.out.sht S5.out.tree)
  rw [HB5.out] at HLen
  go_wp2_with (go_at_call 34; refine HLen.out.mono ?_; rintro e w6 ⟨rfl, hb6⟩; have L6 := bT L5 hb6; have S6 := hid (S5.out.keep hb6); have R6 := hid (Ab.own_keep R5.out hb6); clear hb6)
  refine (Delete_some sb bb vo va5 l1 ([] ++ l2) t5 a5 (0 + 1) w1.heap.size (k : Int) ((k : Int) + l2.length) _ S6 P1 P2 (hid (by rw [HL5.out]; omega)) (by have := List.length_pos_iff.2 HL2.out; simp; omega) (by omega) (by omega) (by rw [HB5.out]; omega) (by decide)).mono ?_
  rintro e w7 ⟨rfl, w6', hb6', a7, t7, hout, hS7, hc7⟩
  have L6' := bT L6 hb6'
  have L7 : Below w.heap.size w w7 := Chg.below_of L6' L6'.size hc7 (Nat.le_trans hlo hS7.lo) (Nat.le_trans hlo hS7.buf.lo) (fun q hq => Nat.le_trans hlo (own_ge hS7.buf.added hq))
  have R7 := hid (own_chg (S6.out.keep hb6') hc7 (Ab.own_keep R6.out hb6'))
  have hsp := back_spans HN.out HPT.out hout P2.out P1.out (by omega) (by omega) (by rw [HBT.out]; omega)
  obtain ⟨q1, q2, q3⟩ := hout.ok P1.out P2.out (by rw [HL5.out]; omega) (by omega)
  have htx : txt l1 ([] ++ l2) t7.list = l1 := by
    rw [q3, P3.out]
    have e1 : ((k : Int)).toNat = k := by omega
    have e2 : ((k : Int) + l2.length).toNat = k + l2.length := by omega
    rw [e1, e2]
    exact ins_del l1 l2 k (by omega)
  have hz7 : t7.size = t.size := by rw [← t7.size_list, ← t.size_list]; have := congrArg List.length hsp; simpa using this
  have S7 := hid hS7
  have Q1 := hid q1
  have Q2 := hid q2
  have HT7 := hid htx
  have HZ7 := hid hz7
  have HSP := hid hsp
  clear hout hS7 hc7 q1 q2 q3 htx hz7 hsp L6' hb6' R6 S6 L6
  have HBy := hid (Bytes_any' sb bb vo va5 l1 ([] ++ l2) t7 a7 (0 + 1 + 1) w1.heap.size w7 S7.out Q1.out Q2.out (by rw [HT7.out]; omega))
  rw [HT7.out] at HBy
  have HSm := hid (fun u v W => same_yes u v l1 W)
  have HPc := hid (fun W (hW : Below w7.heap.size w7 W) => Pieces_any (some ⟨sb, 0, none⟩) a7 (0 + 1 + 1) t7 W (S7.out.keep hW).sht (S7.out.tree.keep hW) (by rw [HZ7.out]; omega))
  rw [HZ7.out] at HPc
  have HSS := hid (fun b1 b2 a1 c1 a2 c2 W (h1 : W.ownsRow b1 30 3 (.slice a1 t.size c1) t.size (spcs t7.list)) (h2 : W.ownsRow b2 30 3 (.slice a2 t.size c2) t.size (spcs t.list)) => sameSpans_any a1 c1 a2 c2 b1 b2 t.size t7.list t.list W (by omega) (hid (by rw [t7.size_list]; exact HZ7.out)) HSP (hid h1) (hid h2))
  have HEd := hid (fun W (hW : Below w7.heap.size w7 W) => edits_any (some ⟨sb, 0, none⟩) a7 (0 + 1 + 1) W (S7.out.keep hW).sht)
  go_wp2_with (first
    | (go_at_call 33; refine HBy.out.mono ?_; rintro e w8 ⟨v8, rfl, hr8, hb8⟩; have V8 := hid hr8; clear hr8)
    | (go_at_call 32; refine (HSm.out _ _ _ V8.out (h1.out.keep (bT L7 hb8))).mono ?_; rintro e w9 ⟨rfl, hb9⟩; have b9 := bT hb8 hb9)
    | (go_at_call 31; refine (HPc.out _ b9).mono ?_; rintro e w10 ⟨ao10, c10, rfl, hr10, hb10⟩; have R10 := hid hr10; have b10 := bT b9 hb10; clear hr10)
    | (go_at_call 43; refine (HSS.out _ _ _ _ _ _ _ R10.out (Ab.own_keep R7.out b10)).mono ?_; rintro e w11 ⟨rfl, hb11⟩; have b11 := bT b10 hb11)
    | (go_at_call 38; refine (HEd.out _ b11).mono ?_; rintro e w12 ⟨rfl, hb12⟩; have b12 := bT b11 hb12))
  go_ret
  exact ⟨rfl, bT L7 b12⟩

set_option maxHeartbeats 4000000 in
/-- Nothing is put in. -/
theorem sheetBack_none (a1 : Option Addr) (c1 : Nat) (l1 : List UInt8) (x : Int) (a2 : Option Addr) (c2 : Nat) (w : World) (h1 : Hid (Ab.Rd w (.slice a1 l1.length c1) l1)) (hx1 : -9223372036854775808 ≤ x) (hx2 : x ≤ 9223372036854775807) (hz : l1.length ≤ 1048573) :
    Calls Try.prog 6 #[.slice a1 l1.length c1, .int .i64 x, .slice a2 0 c2] w fun e w' => e = .returned (.bool true) ∧ Below w.heap.size w w' := by
  have HA := hid awake_any
  have HP := hid (fun W => place_any x (l1.length + 1) W hx1 hx2 (by omega) (by omega))
  simp only [Int.natCast_add, Int.cast_ofNat_Int] at HP
  go_enter Try.func6, Try.ntmps6
  go_wp2_with (first
    | (go_at_call 25; refine (HA.out _).mono ?_; rintro e w1 ⟨rfl, b1⟩)
    | (go_at_call 26; refine (New_any a1 c1 l1 _ (by omega) (hid (h1.out.keep b1))).mono ?_; rintro e w2 ⟨sb, bb, vo, a, t, rfl, hS, hN, b2⟩; have HS := hid hS; have HN := hid hN; have L2 := bT b1 b2; clear hS hN)
    | (go_at_call 40; refine (HP.out _).mono ?_; rintro e w3 ⟨⟨k, hk, rfl⟩, b3⟩; have L3 := bT L2 b3; have S3 := hid (HS.out.keep b3)))
  obtain ⟨o1, o2, o3, o4⟩ := HN.out.ok (by omega)
  have hsz : t.size ≤ 1 := by rw [← t.size_list]; exact o4
  have hbt : t.byt = (l1.length : Int) := by rw [byt_list, ← txt_len o2, o3]
  have O1 := hid o1
  have O2 := hid o2
  have O3 := hid o3
  have HBT := hid hbt
  clear o1 o2 o3 o4 hbt b1 b2 b3 L2 HS
  have HPc := hid (fun W (hW : Below w3.heap.size w3 W) => Pieces_any (some ⟨sb, 0, none⟩) a 0 t W (S3.out.keep hW).sht (S3.out.tree.keep hW) (by omega))
  refine (HPc.out w3 (Below.refl _ _)).mono ?_
  rintro e w4 ⟨ao4, cp4, rfl, hr4, hb4⟩
  have R4 := hid hr4
  clear hr4
  have HIn := hid (fun W (hW : Below w3.heap.size w3 W) => Insert_empty sb t a 0 a2 c2 (k : Int) W (S3.out.keep hW).sht (S3.out.tree.keep hW) (by omega) (by rw [HBT.out]; omega))
  have HDe := hid (fun W (hW : Below w3.heap.size w3 W) => Delete_empty sb t a 0 (k : Int) W (S3.out.keep hW).sht (S3.out.tree.keep hW) (by omega) (by rw [HBT.out]; omega))
  have HLe := hid (fun W (hW : Below w3.heap.size w3 W) => sLen_any (some ⟨sb, 0, none⟩) a 0 t W (S3.out.keep hW).sht (S3.out.tree.keep hW))
  rw [HBT.out] at HLe
  have HBy := hid (fun W (hW : Below w3.heap.size w3 W) => Bytes_any' sb bb vo (.slice none 0 0) l1 [] t a 0 w1.heap.size W (S3.out.keep hW) O1.out O2.out (by rw [O3.out]; omega))
  rw [O3.out] at HBy
  have HSm := hid (fun u v W => same_yes u v l1 W)
  have HSS := hid (fun b1 b2 a1 c1 a2 c2 W (h1 : W.ownsRow b1 30 3 (.slice a1 t.size c1) t.size (spcs t.list)) (h2 : W.ownsRow b2 30 3 (.slice a2 t.size c2) t.size (spcs t.list)) => sameSpans_any a1 c1 a2 c2 b1 b2 t.size t.list t.list W (by omega) (hid t.size_list) (hid rfl) (hid h1) (hid h2))
  have HEd := hid (fun W (hW : Below w3.heap.size w3 W) => edits_any (some ⟨sb, 0, none⟩) a 0 W (S3.out.keep hW).sht)
  go_wp2_with (first
    | (go_at_call 41; refine (HIn.out _ hb4).mono ?_; rintro e w5 ⟨rfl, hb5⟩; have b5 := bT hb4 hb5)
    | (go_at_call 34; refine (HLe.out _ b5).mono ?_; rintro e w6 ⟨rfl, hb6⟩; have b6 := bT b5 hb6)
    | (go_at_call 42; refine (HDe.out _ b6).mono ?_; rintro e w7 ⟨rfl, hb7⟩; have b7 := bT b6 hb7)
    | (go_at_call 33; refine (HBy.out _ b7).mono ?_; rintro e w8 ⟨v8, rfl, hr8, hb8⟩; have V8 := hid hr8; have b8 := bT b7 hb8; clear hr8)
    | (go_at_call 32; refine (HSm.out _ _ _ V8.out (h1.out.keep (bT L3 b8))).mono ?_; rintro e w9 ⟨rfl, hb9⟩; have b9 := bT b8 hb9)
    | (go_at_call 31; refine (HPc.out _ b9).mono ?_; rintro e w10 ⟨ao10, c10, rfl, hr10, hb10⟩; have R10 := hid hr10; have b10 := bT b9 hb10; clear hr10)
    | (go_at_call 43; refine (HSS.out _ _ _ _ _ _ _ R10.out (Ab.own_keep R4.out (((((((hb5.trans (hb6.mono hb5.size)).trans (hb7.mono (bT hb5 hb6).size)).trans (hb8.mono (bT (bT hb5 hb6) hb7).size)).trans (hb9.mono (bT (bT (bT hb5 hb6) hb7) hb8).size)).trans (hb10.mono (bT (bT (bT (bT hb5 hb6) hb7) hb8) hb9).size)))))).mono ?_; rintro e w11 ⟨rfl, hb11⟩; have b11 := bT b10 hb11)
    | (go_at_call 38; refine (HEd.out _ b11).mono ?_; rintro e w12 ⟨rfl, hb12⟩; have b12 := bT b11 hb12))
  go_ret
  exact ⟨rfl, bT L3 b12⟩

end Go.Proofs.Ytpifjghhlcjedaa

