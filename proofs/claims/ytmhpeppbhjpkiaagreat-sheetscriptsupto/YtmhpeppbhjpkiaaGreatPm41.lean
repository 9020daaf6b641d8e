/- A sheet's LineOf. -/
import Derived.Test.YtmhpeppbhjpkiaaGreatPm40
namespace Go.Proofs.YtmhpeppbhjpkiaaGreat
open Go.RowKit

set_option maxHeartbeats 1000000 in
theorem LineOf_no (p a : Option Addr) (e : Int) (t : Tr) (m : Int) (w : World) (hS : Hid (ShT w p a e)) (hT : Hid (At w t a)) (hd : decide (0 ≤ m ∧ m ≤ m ∧ m ≤ t.byt) = false) :
    Calls Tryz.prog 31 #[.pointer p, .int .i64 m] w fun e' w' => e' = .returned (.tuple #[.int .i64 0, .int .i64 30]) ∧ Below w.heap.size w w' := by
  have HR := hid (hasRange_any p a e t m m w hS hT)
  rw [hd] at HR
  clear hd
  go_enter Tryz.func31, Tryz.ntmps31
  go_wp2_with (go_at_call 42; refine HR.out.mono ?_; rintro e9 w9 ⟨rfl, b9⟩)
  exact bodyPost_ret (v := .tuple #[.int .i64 0, .int .i64 30]) (by simp [results, Tryz.results31, go_sem]) rfl ⟨rfl, b9⟩

set_option maxHeartbeats 1000000 in
/-- The place behind the last byte. -/
theorem LineOf_end (p a : Option Addr) (e : Int) (t : Tr) (w : World) (hS : Hid (ShT w p a e)) (hT : Hid (At w t a)) (h0 : 0 ≤ t.byt) (h1 : 0 ≤ t.lin) (h2 : t.lin ≤ 4611686018427387904) :
    Calls Tryz.prog 31 #[.pointer p, .int .i64 t.byt] w fun e' w' => e' = .returned (.tuple #[.int .i64 t.lin, .int .i64 0]) ∧ Below w.heap.size w w' := by
  have hd : decide (0 ≤ t.byt ∧ t.byt ≤ t.byt ∧ t.byt ≤ t.byt) = true := by simp; omega
  have HR := hid (hasRange_any p a e t t.byt t.byt w hS hT)
  rw [hd] at HR
  have HT := hid (fun W (hW : Below w.heap.size w W) => shTree_any p a e W (hS.out.keep hW))
  have HF := hid (fun W (hW : Below w.heap.size w W) => Find52_no t a t.byt W (.inr (Int.le_refl _)) (hT.out.keep hW))
  have HL := hid (fun W (hW : Below w.heap.size w W) => sLines_any p a e t W (hS.out.keep hW) (hT.out.keep hW) h1 h2)
  clear hd
  go_enter Tryz.func31, Tryz.ntmps31
  go_wp2_with (first
    | (go_at_call 42; refine HR.out.mono ?_; rintro e9 w9 ⟨rfl, b9⟩)
    | (go_at_call 45; refine (HT.out _ b9).mono ?_; rintro e8 w8 ⟨rfl, hb8⟩; have b8 := b9.trans (hb8.mono b9.size))
    | (go_at_call 59; refine (HF.out _ b8).mono ?_; rintro e7 w7 ⟨rfl, hb7⟩; have b7 := b8.trans (hb7.mono b8.size))
    | (go_at_call 30; refine (HL.out _ b7).mono ?_; rintro e6 w6 ⟨rfl, hb6⟩; have b6 := b7.trans (hb6.mono b7.size)))
  exact bodyPost_ret (v := .tuple #[.int .i64 t.lin, .int .i64 0]) (by simp [results, Tryz.results31, go_sem]) rfl ⟨rfl, b6⟩

set_option maxHeartbeats 2000000 in
theorem LineOf_some (sb bb : Nat) (vo va : Value) (O A : List UInt8) (t : Tr) (a : Option Addr) (e : Int) (base : Nat) (m : Int) (w : World) (hSh : Hid (Sh w base sb bb vo va O A t a e)) (hg : Hid (Gds O A t.list)) (hz : Hid ((txt O A t.list).length ≤ 1048576)) (h0 : 0 ≤ m) (h1 : m < t.byt) :
    Calls Tryz.prog 31 #[.pointer (some ⟨sb, 0, none⟩), .int .i64 m] w fun e' w' => e' = .returned (.tuple #[.int .i64 (Ab.nl ((txt O A t.list).take m.toNat) : Nat), .int .i64 0]) ∧ Below w.heap.size w w' := by
  have hfine : t.fine := (Tr.fine_list t).2 (hg.out.fine hz.out)
  have hd : decide (0 ≤ m ∧ m ≤ m ∧ m ≤ t.byt) = true := by simp; omega
  have HR := hid (hasRange_any (some ⟨sb, 0, none⟩) a e t m m w hSh.out.sht hSh.out.tree)
  rw [hd] at HR
  have HT := hid (fun W (hW : Below w.heap.size w W) => shTree_any (some ⟨sb, 0, none⟩) a e W (hSh.out.keep hW).sht)
  have HF := hid (fun W (hW : Below w.heap.size w W) => Find52_yes t a m W h0 h1 hfine (hSh.out.tree.keep hW))
  have HG := hid (fun j W (hj : j < t.size) (hW : Below w.heap.size w W) => Get_yes t a j W hj hfine.2 (hSh.out.tree.keep hW))
  have HB := hid (fun j W (hj : j < t.size) (hW : Below w.heap.size w W) => Before_yes t a j W (Nat.le_of_lt hj) hfine (hSh.out.tree.keep hW))
  have HS := hid (fun W (hW : Below w.heap.size w W) => (hSh.out.keep hW).here)
  clear hd
  go_enter Tryz.func31, Tryz.ntmps31
  go_wp2_with (first
    | (go_at_call 42; refine HR.out.mono ?_; rintro e10 w10 ⟨rfl, b10⟩)
    | (go_at_call 45; refine (HT.out _ b10).mono ?_; rintro e9 w9 ⟨rfl, hb9⟩; have b9 := b10.trans (hb9.mono b10.size))
    | (go_at_call 59; refine (HF.out _ b9).mono ?_; rintro e8 w8 ⟨j, x0, rfl, hit, hb8⟩; have b8 := b9.trans (hb8.mono b9.size); obtain ⟨x, rfl⟩ : ∃ x : Nat, x0 = x := (by obtain ⟨pp, _, q, _⟩ := hit; exact ⟨x0.toNat, by omega⟩); have HIT := hid hit; have hj : j < t.size := (by rw [← t.size_list]; exact hit_lt52 hit); clear hit hb8; obtain ⟨c0, c1, c2, _, _, _⟩ := sh_cells (HS.out _ b8))
    | (go_at_call 60; refine (HG.out j _ hj b8).mono ?_; rintro e7 w7 ⟨ps, po0, pl0, pn, hget, rfl, hb7⟩; have b7 := b8.trans (hb7.mono b8.size); have HGT := hid hget; obtain ⟨po, pl, e1, e2, k1, k2, k3⟩ := Ab.hd_parts (hg.out.at hget).hold; simp only at e1 e2 k1 k2; subst e1 e2; have hft := (hg.out.at hget).fit; simp only [Pc.fit] at hft; clear hget hb7 c0 c1 c2; have b6 := bAlloc b7 (.cells #[.int .i64 ps, .int .i64 po, .int .i64 pl, .int .i64 pn] 59); have P6 := hid (World.alloc_heap_new w7 (.cells #[.int .i64 ps, .int .i64 po, .int .i64 pl, .int .i64 pn] 59)); obtain ⟨c0, c1, c2, _, _, _⟩ := sh_cells (HS.out _ b6))
    | (go_at_call 63; refine (HB.out j _ hj b6).mono ?_; rintro e5 w5 ⟨rfl, hb5⟩; have b5 := b6.trans (hb5.mono b6.size); have P5 := hid ((hb5.block _ (sh_lt P6.out)).trans P6.out); clear c0 c1 c2 hb5; obtain ⟨c0, c1, c2, _, _, _⟩ := sh_cells (HS.out _ b5); obtain ⟨d0, d1, d2, d3⟩ := four_cells P5.out))
  have hxl : x < pl := by
    obtain ⟨pp, q1, q2, q3, q4⟩ := HIT.out
    rw [HGT.out] at q1
    cases q1
    simp only at q3
    omega
  refine (cutPiece_yes sb (some ⟨bb, 0, none⟩) (.pointer a) (.int .i64 e) O A base ps po pl x pn _ k1 (by omega) k2 (hid (hSh.out.keep b5).shb) ⟨by omega, by omega⟩ (by omega)).mono ?_
  rintro e4 w4 ⟨rfl, hb4⟩
  have b4 := b5.trans (hb4.mono b5.size)
  have hsl := sB_bounds ((Tr.fine_list t).1 hfine) j
  have hnl : Ab.nl (Ab.cutL ps po x O A) ≤ x := by
    have a1 := Ab.nl_le (Ab.cutL ps po x O A)
    have a2 : (Ab.cutL ps po x O A).length = x := Ab.cutL_length (by omega)
    omega
  clear c0 c1 c2 d0 d1 d2 d3
  go_wp2
  obtain ⟨pp, q1, q2, q3, q4⟩ := HIT.out
  rw [HGT.out] at q1
  cases q1
  have hb := hit_lines hg.out HGT.out q2 q3 q4
  have ec : (pcs O A ⟨ps, po, pl, pn⟩).take ((x : Int)).toNat = Ab.cutL ps po x O A := by
    simp [pcs, Ab.cutL, List.take_take, Nat.min_eq_left (Nat.le_of_lt hxl)]
  rw [ec] at hb
  refine bodyPost_ret (v := .tuple #[.int .i64 (Ab.nl ((txt O A t.list).take m.toNat) : Nat), .int .i64 0]) ?_ rfl ⟨rfl, ?_⟩
  · rw [hb]
    simp [results, Tryz.results31, go_sem]
  · exact bAlloc (bAlloc b4 _) _

end Go.Proofs.YtmhpeppbhjpkiaaGreat

/- A sheet's Start. -/
namespace Go.Proofs.YtmhpeppbhjpkiaaGreat
open Go.RowKit

/-- A line end of a given number. -/
theorem nl_find : ∀ (l : List UInt8) (n : Nat), n < Ab.nl l → ∃ q, ∃ hq : q < l.length, ((l[q].toNat : Int) == 10) = true ∧ Ab.nl (l.take q) = n
  | [], n, h => by simp [Ab.nl] at h
  | c :: l, n, h => by
    by_cases hc : c = 10
    · subst hc
      cases n with
      | zero => exact ⟨0, by simp, by simp, by simp [Ab.nl]⟩
      | succ n =>
        have h' : n < Ab.nl l := by simp [Ab.nl] at h ⊢; omega
        obtain ⟨q, hq, h1, h2⟩ := nl_find l n h'
        refine ⟨q + 1, by simp; omega, by simpa using h1, ?_⟩
        simp [Ab.nl] at h2 ⊢
        omega
    · have h' : n < Ab.nl l := by simp [Ab.nl, hc] at h ⊢; omega
      obtain ⟨q, hq, h1, h2⟩ := nl_find l n h'
      refine ⟨q + 1, by simp; omega, by simpa using h1, ?_⟩
      simp [Ab.nl, hc] at h2 ⊢
      omega

set_option maxHeartbeats 400000 in
theorem Start_zero (p : Value) (w : World) : Calls Tryz.prog 29 #[p, .int .i64 0] w fun e w' => e = .returned (.tuple #[.int .i64 0, .int .i64 0]) ∧ Below w.heap.size w w' := by
  go_enter Tryz.func29, Tryz.ntmps29
  go_wp2
  exact bodyPost_ret (v := .tuple #[.int .i64 0, .int .i64 0]) (by simp [results, Tryz.results29, go_sem]) rfl ⟨rfl, Below.refl _ _⟩

set_option maxHeartbeats 1000000 in
theorem Start_low (p : Value) (x : Int) (w : World) (hx : x < 0) : Calls Tryz.prog 29 #[p, .int .i64 x] w fun e w' => e = .returned (.tuple #[.int .i64 0, .int .i64 2]) ∧ Below w.heap.size w w' := by
  have h0 : (x == 0) = false := by simp; omega
  go_enter Tryz.func29, Tryz.ntmps29
  go_wp2
  exact bodyPost_ret (v := .tuple #[.int .i64 0, .int .i64 2]) (by simp [results, Tryz.results29, go_sem]) rfl ⟨rfl, Below.refl _ _⟩

set_option maxHeartbeats 1000000 in
theorem Start_high (p a : Option Addr) (e : Int) (t : Tr) (x : Int) (w : World) (hS : Hid (ShT w p a e)) (hT : Hid (At w t a)) (h1 : 0 ≤ t.lin) (h2 : t.lin ≤ 4611686018427387904) (hx : t.lin + 1 ≤ x) :
    Calls Tryz.prog 29 #[.pointer p, .int .i64 x] w fun e' w' => e' = .returned (.tuple #[.int .i64 0, .int .i64 2]) ∧ Below w.heap.size w w' := by
  have h0 : (x == 0) = false := by simp; omega
  have HL := hid (sLines_any p a e t w hS hT h1 h2)
  go_enter Tryz.func29, Tryz.ntmps29
  go_wp2_with (go_at_call 30; refine HL.out.mono ?_; rintro e9 w9 ⟨rfl, b9⟩)
  exact bodyPost_ret (v := .tuple #[.int .i64 0, .int .i64 2]) (by simp [results, Tryz.results29, go_sem]) rfl ⟨rfl, b9⟩

/-- A line end of the text, told by its piece. -/
theorem hit_end {O A : List UInt8} {L : List Pc} {m : Int} {j q : Nat} {x : Int} {p : Pc} (hg : Gds O A L) (hp : L[j]? = some p) (hm : m = sL (L.take j) + x) (hq : q < (pcs O A p).length) (h1 : (((pcs O A p)[q].toNat : Int) == 10) = true) (h2 : (Ab.nl ((pcs O A p).take q) : Int) = x) :
    ∃ Q, ∃ hQ : Q < (txt O A L).length, (((txt O A L)[Q].toNat : Int) == 10) = true ∧ (Ab.nl ((txt O A L).take Q) : Int) = m ∧ (Q : Int) = sB (L.take j) + q := by
  have hlt := (List.getElem?_eq_some_iff.1 hp).1
  have e : L = L.take j ++ p :: L.drop (j + 1) := by
    conv => lhs; rw [← List.take_append_drop j L]
    rw [List.drop_eq_getElem_cons hlt]
    obtain ⟨_, e⟩ := List.getElem?_eq_some_iff.1 hp
    rw [e]
  have et : txt O A L = txt O A (L.take j) ++ (pcs O A p ++ txt O A (L.drop (j + 1))) := by
    conv => lhs; rw [e]
    rw [txt_append, txt_cons]
  have l1 := txt_len (hg.take j)
  have n1 := txt_nl (hg.take j)
  refine ⟨(txt O A (L.take j)).length + q, by rw [et, List.length_append, List.length_append]; omega, ?_, ?_, by omega⟩
  · simp only [et]
    rw [List.getElem_append_right (by omega)]
    simp only [Nat.add_sub_cancel_left]
    rw [List.getElem_append_left hq]
    exact h1
  · rw [et, List.take_append, List.take_of_length_le (by omega), Nat.add_sub_cancel_left, nl_append, List.take_append_of_le_length (by omega)]
    push_cast
    omega

set_option maxHeartbeats 2000000 in
theorem Start_some (sb bb : Nat) (vo va : Value) (O A : List UInt8) (t : Tr) (a : Option Addr) (e : Int) (base : Nat) (m : Int) (w : World) (hSh : Hid (Sh w base sb bb vo va O A t a e)) (hg : Hid (Gds O A t.list)) (hz : Hid ((txt O A t.list).length ≤ 1048576)) (h0 : 1 ≤ m) (h1 : m ≤ t.lin) :
    Calls Tryz.prog 29 #[.pointer (some ⟨sb, 0, none⟩), .int .i64 m] w fun e' w' => (∃ Q, ∃ hQ : Q < (txt O A t.list).length, (((txt O A t.list)[Q].toNat : Int) == 10) = true ∧ (Ab.nl ((txt O A t.list).take Q) : Int) = m - 1 ∧ e' = .returned (.tuple #[.int .i64 ((Q + 1 : Nat) : Int), .int .i64 0])) ∧ Below w.heap.size w w' := by
  have hfine : t.fine := (Tr.fine_list t).2 (hg.out.fine hz.out)
  have hm0 : (m == 0) = false := by simp; omega
  have hlin : t.lin ≤ 1048576 := by
    have a1 := txt_nl hg.out
    have a2 := Ab.nl_le (txt O A t.list)
    have a3 := hz.out
    have a4 := lin_list t
    omega
  have HL := hid (fun W (hW : Below w.heap.size w W) => sLines_any (some ⟨sb, 0, none⟩) a e t W (hid (hSh.out.keep hW).sht) (hSh.out.tree.keep hW) (by omega) (by omega))
  have HF := hid (fun W (hW : Below w.heap.size w W) => Find53_yes t a (m - 1) W (by omega) (by omega) hfine (hSh.out.tree.keep hW))
  have HG := hid (fun j W (hj : j < t.size) (hW : Below w.heap.size w W) => Get_yes t a j W hj hfine.2 (hSh.out.tree.keep hW))
  have HB := hid (fun j W (hj : j < t.size) (hW : Below w.heap.size w W) => Before_yes t a j W (Nat.le_of_lt hj) hfine (hSh.out.tree.keep hW))
  have HS := hid (fun W (hW : Below w.heap.size w W) => (hSh.out.keep hW).here)
  go_enter Tryz.func29, Tryz.ntmps29
  go_wp2_with (first
    | (go_at_call 30; refine (HL.out _ (Below.refl _ _)).mono ?_; rintro e9 w9 ⟨rfl, b9⟩; obtain ⟨c0, c1, c2, _, _, _⟩ := sh_cells (HS.out _ b9))
    | (go_at_call 62; refine (HF.out _ b9).mono ?_; rintro e8 w8 ⟨j, x0, rfl, hit, hb8⟩; have b8 := b9.trans (hb8.mono b9.size); obtain ⟨x, rfl⟩ : ∃ x : Nat, x0 = x := (by obtain ⟨pp, _, q, _⟩ := hit; exact ⟨x0.toNat, by omega⟩); have HIT := hid hit; have hj : j < t.size := (by rw [← t.size_list]; obtain ⟨pp, q1, _⟩ := hit; exact (List.getElem?_eq_some_iff.1 q1).1); clear hit hb8 c0 c1 c2; obtain ⟨c0, c1, c2, _, _, _⟩ := sh_cells (HS.out _ b8))
    | (go_at_call 60; refine (HG.out j _ hj b8).mono ?_; rintro e7 w7 ⟨ps, po0, pl0, pn, hget, rfl, hb7⟩; have b7 := b8.trans (hb7.mono b8.size); have HGT := hid hget; obtain ⟨po, pl, e1, e2, k1, k2, k3⟩ := Ab.hd_parts (hg.out.at hget).hold; simp only at e1 e2 k1 k2; subst e1 e2; clear hget hb7 c0 c1 c2; have b6 := bAlloc b7 (.cells #[.int .i64 ps, .int .i64 po, .int .i64 pl, .int .i64 pn] 59); have P6 := hid (World.alloc_heap_new w7 (.cells #[.int .i64 ps, .int .i64 po, .int .i64 pl, .int .i64 pn] 59)); obtain ⟨c0, c1, c2, _, _, _⟩ := sh_cells (HS.out _ b6))
    | (go_at_call 63; refine (HB.out j _ hj b6).mono ?_; rintro e5 w5 ⟨rfl, hb5⟩; have b5 := b6.trans (hb5.mono b6.size); have P5 := hid ((hb5.block _ (sh_lt P6.out)).trans P6.out); clear c0 c1 c2 hb5; obtain ⟨c0, c1, c2, _, _, _⟩ := sh_cells (HS.out _ b5); obtain ⟨d0, d1, d2, d3⟩ := four_cells P5.out))
  have hfind : ∃ q, ∃ hq : q < (pcs O A ⟨ps, po, pl, pn⟩).length, (((pcs O A ⟨ps, po, pl, pn⟩)[q].toNat : Int) == 10) = true ∧ Ab.nl ((pcs O A ⟨ps, po, pl, pn⟩).take q) = x := by
    obtain ⟨pp, q1, q2, q3, q4⟩ := HIT.out
    rw [HGT.out] at q1
    cases q1
    have a1 := (hg.out.at HGT.out).ln
    simp only at q3 a1
    exact nl_find _ _ (by omega)
  obtain ⟨q, hq, y1, y2⟩ := hfind
  have hend : ∃ Q, ∃ hQ : Q < (txt O A t.list).length, (((txt O A t.list)[Q].toNat : Int) == 10) = true ∧ (Ab.nl ((txt O A t.list).take Q) : Int) = m - 1 ∧ (Q : Int) = sB (t.list.take j) + q := by
    obtain ⟨pp, q1, q2, q3, q4⟩ := HIT.out
    rw [HGT.out] at q1
    cases q1
    exact hit_end hg.out HGT.out q4 hq y1 (by rw [y2])
  have hx63 : x ≤ 9223372036854775807 := by
    have a1 := Ab.nl_le ((pcs O A ⟨ps, po, pl, pn⟩).take q)
    have a2 := (hg.out.at HGT.out).len
    have a3 := (hg.out.at HGT.out).fit
    simp only [Pc.fit] at a3 a2
    rw [List.length_take] at a1
    omega
  have HLa := hid (fun W (hW : Below w.heap.size w W) => Ab.lineAt_yes (some ⟨bb, 0, none⟩) ps po pl x q O A base W k1 k2 hx63 ⟨hq, y1, y2⟩ (hSh.out.keep hW).shb.buf)
  have HE := hid hend
  have hsl := sB_bounds ((Tr.fine_list t).1 hfine) j
  clear hend hq y1 y2
  go_region_held3 (fun w' => w'.cell? ⟨sb, 0, none⟩ = some (.pointer (some ⟨bb, 0, none⟩)) ∧ w'.cell? ⟨w7.heap.size, 0, none⟩ = some (.int .i64 ps) ∧ w'.cell? ⟨w7.heap.size, 1, none⟩ = some (.int .i64 po) ∧ w'.cell? ⟨w7.heap.size, 2, none⟩ = some (.int .i64 pl)) (first | assumption | simp [*, go_sem])
    (first | (go_at_call 64; refine (HLa.out _ b5.drew).mono ?_; rintro e4 w4 ⟨rfl, hb4⟩; have b4 := b5.trans ((bD hb4).mono b5.size); obtain ⟨c0, c1, c2, _, _, _⟩ := sh_cells (HS.out _ b4); obtain ⟨d0, d1, d2, d3⟩ := four_cells (((bD hb4).block _ (sh_lt P5.out)).trans P5.out)))
  obtain ⟨Q, hQ, z1, z2, z3⟩ := HE.out
  have hz' := hz.out
  have hqb : (0 : Int) ≤ q := by omega
  go_wp2
  refine bodyPost_ret (v := .tuple #[.int .i64 ((Q + 1 : Nat) : Int), .int .i64 0]) ?_ rfl ⟨⟨Q, hQ, z1, z2, rfl⟩, b4⟩
  have ez : ((Q + 1 : Nat) : Int) = sB (t.list.take j) + q + 1 := by push_cast; omega
  rw [ez]
  simp [results, Tryz.results29, go_sem]

end Go.Proofs.YtmhpeppbhjpkiaaGreat

/- The contract of quoinlaw04.asked: one question beside the text. -/
namespace Go.Proofs.YtmhpeppbhjpkiaaGreat
open Go.RowKit

/-- what a sheet of text T answers, whatever lies above it -/
structure Aq (W : World) (sb : Nat) (T : List UInt8) : Prop where
  slno : ∀ x y : Int, (x < 0 ∨ y < x ∨ (T.length : Int) < y) → ∀ W', Below W.heap.size W W' → Calls Tryz.prog 25 #[.pointer (some ⟨sb, 0, none⟩), .int .i64 x, .int .i64 y] W' fun e' w' => e' = .returned (.tuple #[.slice none 0 0, .int .i64 30]) ∧ Below W'.heap.size W' w'
  slyes : ∀ x y : Nat, x ≤ y → y ≤ T.length → ∀ W', Below W.heap.size W W' → Calls Tryz.prog 25 #[.pointer (some ⟨sb, 0, none⟩), .int .i64 (x : Int), .int .i64 (y : Int)] W' fun e' w' => ∃ ao c, e' = .returned (.tuple #[.slice ao (y - x) c, .int .i64 0]) ∧ w'.ownsRow W'.heap.size 5 1 (.slice ao (y - x) c) (y - x) (Ab.bv ((T.drop x).take (y - x))) ∧ Below W'.heap.size W' w'
  byno : ∀ x : Int, (x < 0 ∨ (T.length : Int) ≤ x) → ∀ W', Below W.heap.size W W' → Calls Tryz.prog 27 #[.pointer (some ⟨sb, 0, none⟩), .int .i64 x] W' fun e' w' => e' = .returned (.tuple #[.int .u8 0, .int .i64 30]) ∧ Below W'.heap.size W' w'
  byyes : ∀ x : Nat, x < T.length → ∀ W', Below W.heap.size W W' → Calls Tryz.prog 27 #[.pointer (some ⟨sb, 0, none⟩), .int .i64 (x : Int)] W' fun e' w' => e' = .returned (.tuple #[.int .u8 ((b8 T x).toNat : Int), .int .i64 0]) ∧ Below W'.heap.size W' w'
  stno : ∀ x : Int, (x < 0 ∨ (Ab.nl T : Int) < x) → ∀ W', Below W.heap.size W W' → Calls Tryz.prog 29 #[.pointer (some ⟨sb, 0, none⟩), .int .i64 x] W' fun e' w' => e' = .returned (.tuple #[.int .i64 0, .int .i64 2]) ∧ Below W'.heap.size W' w'
  styes : ∀ x : Nat, x ≤ Ab.nl T → ∀ W', Below W.heap.size W W' → Calls Tryz.prog 29 #[.pointer (some ⟨sb, 0, none⟩), .int .i64 (x : Int)] W' fun e' w' => (∃ q : Nat, (sts T T.length)[x]? = some q ∧ e' = .returned (.tuple #[.int .i64 (q : Int), .int .i64 0])) ∧ Below W'.heap.size W' w'
  lnno : ∀ x : Int, (x < 0 ∨ (T.length : Int) < x) → ∀ W', Below W.heap.size W W' → Calls Tryz.prog 31 #[.pointer (some ⟨sb, 0, none⟩), .int .i64 x] W' fun e' w' => e' = .returned (.tuple #[.int .i64 0, .int .i64 30]) ∧ Below W'.heap.size W' w'
  lnyes : ∀ x : Nat, x ≤ T.length → ∀ W', Below W.heap.size W W' → Calls Tryz.prog 31 #[.pointer (some ⟨sb, 0, none⟩), .int .i64 (x : Int)] W' fun e' w' => e' = .returned (.tuple #[.int .i64 (Ab.nl (T.take x) : Int), .int .i64 0]) ∧ Below W'.heap.size W' w'
  lines : ∀ W', Below W.heap.size W W' → Calls Tryz.prog 30 #[.pointer (some ⟨sb, 0, none⟩)] W' fun e' w' => e' = .returned (.int .i64 ((Ab.nl T : Int) + 1)) ∧ Below W'.heap.size W' w'

theorem Lz.aq {K : List (Nat × Obj)} {w0 W : World} {sb : Nat} {O A T : List UInt8} {e : Int} (h : Lz K w0 W sb O A T e) (hz : T.length ≤ 1048576) : Aq W sb T := by
  obtain ⟨⟨bb, vo, va, t, a, h1, ⟨⟨h2, -⟩, -⟩, h3, rfl⟩, -⟩ := h
  have hb : t.byt = ((txt O A t.list).length : Int) := by rw [byt_list, ← txt_len h3]
  have hl : t.lin = (Ab.nl (txt O A t.list) : Int) := by rw [lin_list, ← txt_nl h3]
  have hn := Ab.nl_le (txt O A t.list)
  constructor
  · intro x y hx W' hW
    exact Slice_no _ a e t x y W' (h1.keep hW).sht (h1.tree.keep hW) (by simp; omega)
  · intro x y hx hy W' hW
    exact Slice_some sb bb vo va O A t a e w0.heap.size x y W' (h1.keep hW) h2 h3 hz hx hy
  · intro x hx W' hW
    exact Byte_no _ a e t x W' (h1.keep hW).sht (h1.tree.keep hW) (by omega)
  · intro x hx W' hW
    have := Byte_some sb bb vo va O A t a e w0.heap.size x W' (h1.keep hW) h3 hz (by omega) (by omega)
    rwa [Int.toNat_natCast] at this
  · intro x hx W' hW
    by_cases h0 : x < 0
    · exact Start_low _ x W' h0
    · exact Start_high _ a e t x W' (h1.keep hW).sht (h1.tree.keep hW) (by omega) (by omega) (by omega)
  · intro x hx W' hW
    by_cases h0 : x = 0
    · subst h0
      refine (Start_zero _ W').mono ?_
      rintro e' w' ⟨rfl, b⟩
      exact ⟨⟨0, sts_zero _ _, rfl⟩, b⟩
    · refine (Start_some sb bb vo va O A t a e w0.heap.size x W' (h1.keep hW) h3 hz (by omega) (by omega)).mono ?_
      rintro e' w' ⟨⟨Q, hQ, h10, hnl, rfl⟩, b⟩
      refine ⟨⟨Q + 1, ?_, rfl⟩, b⟩
      have := sts_at (txt O A t.list) Q hQ (by simpa [b8, List.getD, hQ] using h10) _ hQ (Nat.le_refl _)
      rwa [show Ab.nl ((txt O A t.list).take Q) + 1 = x by omega] at this
  · intro x hx W' hW
    exact LineOf_no _ a e t x W' (h1.keep hW).sht (h1.tree.keep hW) (by simp; omega)
  · intro x hx W' hW
    by_cases h0 : x < (txt O A t.list).length
    · have := LineOf_some sb bb vo va O A t a e w0.heap.size x W' (h1.keep hW) h3 hz (by omega) (by omega)
      rwa [Int.toNat_natCast] at this
    · obtain rfl : x = (txt O A t.list).length := by omega
      have := LineOf_end (some ⟨sb, 0, none⟩) a e t W' (h1.keep hW).sht (h1.tree.keep hW) (by omega) (by omega) (by omega)
      rwa [hb, hl, show Ab.nl (txt O A t.list) = Ab.nl ((txt O A t.list).take (txt O A t.list).length) by rw [List.take_length]] at this
  · intro W' hW
    have := sLines_any (some ⟨sb, 0, none⟩) a e t W' (h1.keep hW).sht (h1.tree.keep hW) (by omega) (by omega)
    rwa [hl] at this
end Go.Proofs.YtmhpeppbhjpkiaaGreat

/- asked, a byte. -/
namespace Go.Proofs.YtmhpeppbhjpkiaaGreat
open Go.RowKit

theorem add_at (g o k : Nat) : (⟨g, o, none⟩ : Addr).add k = ⟨g, o + k, none⟩ := by
  unfold Addr.add; split <;> simp_all
/-- a step's own box, behind a call -/
theorem qbox {W w9 : World} {k x b vp ve : Value} {ty : TypeId} (h : Below (W.alloc (.cells #[k, x, b, vp, ve] ty)).heap.size (W.alloc (.cells #[k, x, b, vp, ve] ty)) w9) : w9.cell? ⟨W.heap.size, 1, none⟩ = some x ∧ w9.cell? ⟨W.heap.size, 2, none⟩ = some b :=
  ⟨cell_later h (by simp), cell_later h (by simp)⟩

set_option maxRecDepth 8000 in
set_option maxHeartbeats 2000000 in
theorem asked4_no (sb : Nat) (T : List UInt8) (ta : Option Addr) (tc : Nat) (x b : Int) (vp ve : Value) (W : World) (hQ : Hid (Aq W sb T)) (hx : x < 0 ∨ (T.length : Int) ≤ x) :
    Calls Tryz.prog 10 #[.pointer (some ⟨sb, 0, none⟩), .slice ta T.length tc, .agg #[.int .i64 4, .int .i64 x, .int .i64 b, vp, ve]] W fun e' w' => e' = .returned (.bool true) ∧ Below W.heap.size W w' := by
  have HB := hid (fun (X : Obj) => hQ.out.byno x hx _ (bAlloc (Below.refl _ _) X))
  have hd : Hid (decide (x < 0) = true ∨ (decide (x < 0) = false ∧ decide ((T.length : Int) ≤ x) = true)) := by
    unfold Hid; by_cases h : x < 0
    · simp [h]
    · right; simp; omega
  clear hx
  go_enter Tryz.func10, Tryz.ntmps10
  go_wp2_with fail
  refine (HB.out _).mono ?_
  rintro e9 w9 ⟨rfl, b9⟩
  obtain ⟨c1, c2⟩ := qbox b9
  have B9 := hid (bT (bAlloc (Below.refl _ _) _) b9)
  clear b9 c2
  rcases hd.out with h | ⟨h, h'⟩
  all_goals
    clear hd
    go_wp2
    go_ret
    exact ⟨rfl, B9.out⟩

set_option maxRecDepth 8000 in
set_option maxHeartbeats 2000000 in
theorem asked4_yes (sb : Nat) (T : List UInt8) (ta : Option Addr) (tc x : Nat) (b : Int) (vp ve : Value) (W : World) (hQ : Hid (Aq W sb T)) (hR : Hid (Ab.Rd W (.slice ta T.length tc) T)) (hx : x < T.length) :
    Calls Tryz.prog 10 #[.pointer (some ⟨sb, 0, none⟩), .slice ta T.length tc, .agg #[.int .i64 4, .int .i64 (x : Int), .int .i64 b, vp, ve]] W fun e' w' => e' = .returned (.bool true) ∧ Below W.heap.size W w' := by
  have HB := hid (fun (X : Obj) => hQ.out.byyes x hx _ (bAlloc (Below.refl _ _) X))
  have h1 : (0 : Int) ≤ (x : Int) := by omega
  have h2 : (x : Int) < (T.length : Int) := by omega
  obtain ⟨g, o, rfl, hc⟩ := rd_at hR.out (by omega)
  have hcx := hid (hc x hx)
  clear hc
  go_enter Tryz.func10, Tryz.ntmps10
  go_wp2_with fail
  refine (HB.out _).mono ?_
  rintro e9 w9 ⟨rfl, b9⟩
  obtain ⟨c1, c2⟩ := qbox b9
  have c3 := cell_later (bT (bAlloc (Below.refl _ _) _) b9) hcx.out
  have B9 := hid (bT (bAlloc (Below.refl _ _) _) b9)
  clear b9 c2
  go_wp2
  go_ret
  exact ⟨rfl, B9.out⟩
end Go.Proofs.YtmhpeppbhjpkiaaGreat

