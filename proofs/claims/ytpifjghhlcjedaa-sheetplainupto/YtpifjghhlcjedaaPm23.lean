/- A sheet's questions: Byte, Slice, LineOf. -/
import Derived.Test.YtpifjghhlcjedaaPm20
import Derived.Test.YtpifjghhlcjedaaPm21
import Derived.Test.YtpifjghhlcjedaaPm22
namespace Go.Proofs.Ytpifjghhlcjedaa
open Go.RowKit

/-- A byte of the text, told by its piece. -/
theorem hit_byte {O A : List UInt8} {L : List Pc} {m : Int} {j : Nat} {x : Int} {p : Pc} (hg : Gds O A L) (hp : L[j]? = some p) (hx0 : 0 ≤ x) (hx1 : x < p.l) (hm : m = sB (L.take j) + x) : (txt O A L).getD m.toNat 0 = (pcs O A p).getD x.toNat 0 := by
  have hlt := (List.getElem?_eq_some_iff.1 hp).1
  have e : L = L.take j ++ p :: L.drop (j + 1) := by
    conv => lhs; rw [← List.take_append_drop j L]
    rw [List.drop_eq_getElem_cons hlt]
    obtain ⟨_, e⟩ := List.getElem?_eq_some_iff.1 hp
    rw [e]
  have et : txt O A L = txt O A (L.take j) ++ (pcs O A p ++ txt O A (L.drop (j + 1))) := by
    conv => lhs; rw [e]
    rw [txt_append, txt_cons]
  have l1 := txt_len (hg.take j)
  have l2 := (hg.at hp).len
  have em : m.toNat = (txt O A (L.take j)).length + x.toNat := by omega
  rw [et, em, List.getD_eq_getElem?_getD, List.getD_eq_getElem?_getD, List.getElem?_append_right (by omega), Nat.add_sub_cancel_left, List.getElem?_append_left (by omega)]

set_option maxHeartbeats 2000000 in
theorem Byte_some (sb bb : Nat) (vo va : Value) (O A : List UInt8) (t : Tr) (a : Option Addr) (e : Int) (base : Nat) (m : Int) (w : World) (hSh : Hid (Sh w base sb bb vo va O A t a e)) (hg : Hid (Gds O A t.list)) (hz : Hid ((txt O A t.list).length ≤ 1048576)) (h0 : 0 ≤ m) (h1 : m < t.byt) :
    Calls Try.prog 49 #[.pointer (some ⟨sb, 0, none⟩), .int .i64 m] w fun e' w' => e' = .returned (.tuple #[.int .u8 (((txt O A t.list).getD m.toNat 0).toNat : Int), .int .i64 0]) ∧ Below w.heap.size w w' := by
  have hfine : t.fine := (Tr.fine_list t).2 (hg.out.fine hz.out)
  have HT := hid (fun W (hW : Below w.heap.size w W) => shTree_any (some ⟨sb, 0, none⟩) a e W (hSh.out.keep hW).sht)
  have HF := hid (fun W (hW : Below w.heap.size w W) => Find52_yes t a m W h0 h1 hfine (hSh.out.tree.keep hW))
  have HG := hid (fun j W (hj : j < t.size) (hW : Below w.heap.size w W) => Get_yes t a j W hj hfine.2 (hSh.out.tree.keep hW))
  have HS := hid (fun W (hW : Below w.heap.size w W) => (hSh.out.keep hW).here)
  go_enter Try.func49, Try.ntmps49
  go_wp2_with (first
    | (go_at_call 72; refine (HT.out _ (Below.refl _ _)).mono ?_; rintro e9 w9 ⟨rfl, b9⟩)
    | (go_at_call 51; refine (HF.out _ b9).mono ?_; rintro e8 w8 ⟨j, x0, rfl, hit, hb8⟩; have b8 := b9.trans (hb8.mono b9.size); obtain ⟨x, rfl⟩ : ∃ x : Nat, x0 = x := (by obtain ⟨pp, _, q, _⟩ := hit; exact ⟨x0.toNat, by omega⟩); have HIT := hid hit; have hj : j < t.size := (by rw [← t.size_list]; exact hit_lt52 hit); clear hit hb8; obtain ⟨c0, c1, c2, _, _, _⟩ := sh_cells (HS.out _ b8))
    | (go_at_call 24; refine (HG.out j _ hj b8).mono ?_; rintro e7 w7 ⟨ps, po0, pl0, pn, hget, rfl, hb7⟩; have b7 := b8.trans (hb7.mono b8.size); have HGT := hid hget; obtain ⟨po, pl, e1, e2, k1, k2, k3⟩ := Ab.hd_parts (hg.out.at hget).hold; simp only at e1 e2 k1 k2; subst e1 e2; clear hget hb7 c0 c1 c2))
  have b6 := bAlloc b7 (.cells #[.int .i64 ps, .int .i64 po, .int .i64 pl, .int .i64 pn] 32)
  have P6 := World.alloc_heap_new w7 (.cells #[.int .i64 ps, .int .i64 po, .int .i64 pl, .int .i64 pn] 32)
  generalize w7.alloc (.cells #[.int .i64 ps, .int .i64 po, .int .i64 pl, .int .i64 pn] 32) = w6 at *
  obtain ⟨c0, c1, c2, _, _, _⟩ := sh_cells (HS.out _ b6)
  obtain ⟨d0, d1, d2, d3⟩ := four_cells P6
  have HP6 := hid P6
  clear P6
  have hxl : x < pl := by
    obtain ⟨pp, q1, q2, q3, q4⟩ := HIT.out
    rw [HGT.out] at q1
    cases q1
    simp only at q3
    omega
  have HBy := hid (fun W (hW : Below w.heap.size w W) => Ab.byte_yes (some ⟨bb, 0, none⟩) ps po pl x O A base W k1 k2 hxl (hSh.out.keep hW).shb.buf)
  go_region_held3 (fun w' => w'.cell? ⟨sb, 0, none⟩ = some (.pointer (some ⟨bb, 0, none⟩)) ∧ w'.cell? ⟨w7.heap.size, 0, none⟩ = some (.int .i64 ps) ∧ w'.cell? ⟨w7.heap.size, 1, none⟩ = some (.int .i64 po) ∧ w'.cell? ⟨w7.heap.size, 2, none⟩ = some (.int .i64 pl)) (first | assumption | simp [*, go_sem])
    (first | (go_at_call 87; refine (HBy.out _ b6.drew).mono ?_; rintro e5 w5 ⟨rfl, hb5⟩; have b5 := b6.trans ((bD hb5).mono b6.size); obtain ⟨c0, c1, c2, _, _, _⟩ := sh_cells (HS.out _ b5); obtain ⟨d0, d1, d2, d3⟩ := four_cells (((bD hb5).block _ (sh_lt HP6.out)).trans HP6.out)))
  go_wp2
  obtain ⟨pp, q1, q2, q3, q4⟩ := HIT.out
  rw [HGT.out] at q1
  cases q1
  have hb := hit_byte hg.out HGT.out q2 q3 q4
  refine bodyPost_ret (v := .tuple #[.int .u8 (((txt O A t.list).getD m.toNat 0).toNat : Int), .int .i64 0]) ?_ rfl ⟨rfl, b5⟩
  rw [hb]
  simp [results, Try.results49, go_sem, Ab.at8, pcs]

set_option maxHeartbeats 1000000 in
theorem Byte_no (p a : Option Addr) (e : Int) (t : Tr) (m : Int) (w : World) (hS : Hid (ShT w p a e)) (hT : Hid (At w t a)) (hm : m < 0 ∨ t.byt ≤ m) :
    Calls Try.prog 49 #[.pointer p, .int .i64 m] w fun e' w' => e' = .returned (.tuple #[.int .u8 0, .int .i64 30]) ∧ Below w.heap.size w w' := by
  have HF := hid (fun W (hW : Below w.heap.size w W) => Find52_no t a m W hm (hT.out.keep hW))
  have HT := hid (shTree_any p a e w hS)
  clear hm
  go_enter Try.func49, Try.ntmps49
  go_wp2_with (first
    | (go_at_call 72; refine HT.out.mono ?_; rintro e9 w9 ⟨rfl, b9⟩)
    | (go_at_call 51; refine (HF.out _ b9).mono ?_; rintro e8 w8 ⟨rfl, hb8⟩))
  exact bodyPost_ret (v := .tuple #[.int .u8 0, .int .i64 30]) (by simp [results, Try.results49, go_sem]) rfl ⟨rfl, b9.trans (hb8.mono b9.size)⟩

set_option maxHeartbeats 1000000 in
theorem Slice_no (p a : Option Addr) (e : Int) (t : Tr) (x y : Int) (w : World) (hS : Hid (ShT w p a e)) (hT : Hid (At w t a)) (hd : decide (0 ≤ x ∧ x ≤ y ∧ y ≤ t.byt) = false) :
    Calls Try.prog 44 #[.pointer p, .int .i64 x, .int .i64 y] w fun e' w' => e' = .returned (.tuple #[.slice none 0 0, .int .i64 30]) ∧ Below w.heap.size w w' := by
  have HR := hid (hasRange_any p a e t x y w hS hT)
  rw [hd] at HR
  clear hd
  go_enter Try.func44, Try.ntmps44
  go_wp2_with (go_at_call 77; refine HR.out.mono ?_; rintro e9 w9 ⟨rfl, b9⟩)
  exact bodyPost_ret (v := .tuple #[.slice none 0 0, .int .i64 30]) (by simp [results, Try.results44, go_sem]) rfl ⟨rfl, b9⟩

set_option maxHeartbeats 1000000 in
theorem Slice_some (sb bb : Nat) (vo va : Value) (O A : List UInt8) (t : Tr) (a : Option Addr) (e : Int) (base : Nat) (x y : Nat) (w : World) (hSh : Hid (Sh w base sb bb vo va O A t a e)) (hw : Hid t.whole) (hg : Hid (Gds O A t.list)) (hz : Hid ((txt O A t.list).length ≤ 1048576)) (hxy : x ≤ y) (hy : y ≤ (txt O A t.list).length) :
    Calls Try.prog 44 #[.pointer (some ⟨sb, 0, none⟩), .int .i64 (x : Int), .int .i64 (y : Int)] w fun e' w' => ∃ ao c, e' = .returned (.tuple #[.slice ao (y - x) c, .int .i64 0]) ∧ w'.ownsRow w.heap.size 5 1 (.slice ao (y - x) c) (y - x) (Ab.bv (((txt O A t.list).drop x).take (y - x))) ∧ Below w.heap.size w w' := by
  have hb := txt_len hg.out
  rw [← byt_list] at hb
  have hd : decide (0 ≤ (x : Int) ∧ (x : Int) ≤ (y : Int) ∧ (y : Int) ≤ t.byt) = true := by simp; omega
  have HR := hid (hasRange_any (some ⟨sb, 0, none⟩) a e t x y w hSh.out.sht hSh.out.tree)
  rw [hd] at HR
  have HRd : Hid (∀ W, Below w.heap.size w W → Calls Try.prog 73 #[.pointer (some ⟨sb, 0, none⟩), .int .i64 (x : Int), .int .i64 (y : Int)] W fun e' w' => ∃ ao c, e' = .returned (.slice ao (y - x) c) ∧ w'.ownsRow W.heap.size 5 1 (.slice ao (y - x) c) (y - x) (Ab.bv (((txt O A t.list).drop x).take (y - x))) ∧ Below W.heap.size W w') := fun W hW => by
    rcases Nat.lt_or_ge x y with h | h
    · exact read_some sb bb vo va O A t a e base x y W (hid (hSh.out.keep hW)) hw hg hz.out h hy
    · obtain rfl : x = y := by omega
      exact (read_none _ _ W).mono fun e' w' ⟨h1, h2⟩ => ⟨none, 0, by rw [h1, Nat.sub_self], by rw [Nat.sub_self, List.take_zero]; exact World.ownsRow_nil _ _ _ _, h2⟩
  clear hd hb
  go_enter Try.func44, Try.ntmps44
  go_wp2_with (first | (go_at_call 77; refine HR.out.mono ?_; rintro e9 w9 ⟨rfl, b9⟩) | (go_at_call 73; refine (HRd.out _ b9).mono ?_; rintro e8 w8 ⟨ao, c, rfl, hr8, hb8⟩; have R8 := hid hr8; clear hr8))
  exact bodyPost_ret (v := .tuple #[.slice ao (y - x) c, .int .i64 0]) (by simp [results, Try.results44, go_sem]) rfl ⟨ao, c, rfl, Ab.own_lower R8.out b9.size, b9.trans (hb8.mono b9.size)⟩

/-- The line ends ahead of a place, told by its piece. -/
theorem hit_lines {O A : List UInt8} {L : List Pc} {m : Int} {j : Nat} {x : Int} {p : Pc} (hg : Gds O A L) (hp : L[j]? = some p) (hx0 : 0 ≤ x) (hx1 : x < p.l) (hm : m = sB (L.take j) + x) : (Ab.nl ((txt O A L).take m.toNat) : Int) = sL (L.take j) + (Ab.nl ((pcs O A p).take x.toNat) : Nat) := by
  have hlt := (List.getElem?_eq_some_iff.1 hp).1
  have e : L = L.take j ++ p :: L.drop (j + 1) := by
    conv => lhs; rw [← List.take_append_drop j L]
    rw [List.drop_eq_getElem_cons hlt]
    obtain ⟨_, e⟩ := List.getElem?_eq_some_iff.1 hp
    rw [e]
  have et : txt O A L = txt O A (L.take j) ++ (pcs O A p ++ txt O A (L.drop (j + 1))) := by
    conv => lhs; rw [e]
    rw [txt_append, txt_cons]
  have l1 := txt_len (hg.take j)
  have l2 := (hg.at hp).len
  have n1 := txt_nl (hg.take j)
  have em : m.toNat = (txt O A (L.take j)).length + x.toNat := by omega
  rw [et, em, List.take_append, List.take_of_length_le (by omega), Nat.add_sub_cancel_left, nl_append, List.take_append_of_le_length (by omega)]
  push_cast
  omega

end Go.Proofs.Ytpifjghhlcjedaa

/- What the law SheetFresh leans on: a script in memory, the bytes of a sheet as a row of their own. -/
namespace Go.Proofs.Ytpifjghhlcjedaa
open Go.RowKit

theorem apT_len : ∀ (es : List Ed) (T T' : List UInt8), apT T es = some T' → T'.length ≤ T.length + nsum es
  | [], T, T', h => by
    have : T = T' := by simpa [apT] using h
    subst this; exact Nat.le_add_right _ _
  | d :: ds, T, T', h => by
    unfold apT at h
    cases hf : edB T d with
    | false => rw [hf] at h; cases h
    | true =>
      rw [hf, if_pos rfl] at h
      have h1 := apT_len ds _ _ h
      have h2 := edT_len hf
      show T'.length ≤ T.length + (d.new.length + nsum ds)
      omega
theorem stT_len {T T' : List UInt8} {q : Sq} (h : stT T q = some T') : T'.length ≤ T.length + qby q := by
  unfold stT at h
  unfold qby
  split at h
  · split at h
    · simp only [Option.some.injEq] at h
      subst h
      simp only [List.length_append, List.length_take, List.length_drop]
      omega
    · cases h
  · split at h
    · split at h
      · simp only [Option.some.injEq] at h
        subst h
        simp only [List.length_append, List.length_take, List.length_drop]
        omega
      · cases h
    · split at h
      · have := apT_len _ _ _ h; omega
      · have : T = T' := by simpa using h
        subst this; omega
def qsum : List Sq → Nat
  | [] => 0
  | q :: qs => qby q + qsum qs
def qeds : List Sq → Nat
  | [] => 0
  | q :: qs => qed q + qeds qs
theorem qsum_drop {qs : List Sq} {i : Nat} {q : Sq} (h : qs[i]? = some q) : qsum (qs.drop i) = qby q + qsum (qs.drop (i + 1)) := by
  obtain ⟨hi, rfl⟩ := List.getElem?_eq_some_iff.1 h
  rw [List.drop_eq_getElem_cons hi]; rfl
theorem qeds_drop {qs : List Sq} {i : Nat} {q : Sq} (h : qs[i]? = some q) : qeds (qs.drop i) = qed q + qeds (qs.drop (i + 1)) := by
  obtain ⟨hi, rfl⟩ := List.getElem?_eq_some_iff.1 h
  rw [List.drop_eq_getElem_cons hi]; rfl
/-- a script in memory -/
structure Scs (W : World) (ao : Option Addr) (qs : List Sq) : Prop where
  cells : ∀ (i : Nat) (q : Sq), qs[i]? = some q → ∃ g o ap cp ae ce, ao = some ⟨g, o, none⟩ ∧ W.cell? ⟨g, o + i * 5, none⟩ = some (.int .i64 q.kind) ∧ W.cell? ⟨g, o + i * 5 + 1, none⟩ = some (.int .i64 q.a) ∧ W.cell? ⟨g, o + i * 5 + 2, none⟩ = some (.int .i64 q.b) ∧ W.cell? ⟨g, o + i * 5 + 3, none⟩ = some (.slice ap q.p.length cp) ∧ W.cell? ⟨g, o + i * 5 + 4, none⟩ = some (.slice ae q.es.length ce) ∧ Sqr W q ap ae cp ce
  small : ∀ q ∈ qs, q.es.length ≤ 1048576 ∧ ∀ d ∈ q.es, d.old.length ≤ 1048576
theorem Sqr.keep {W W' : World} {q : Sq} {ap ae : Option Addr} {cp ce : Nat} (h : Sqr W q ap ae cp ce) (hb : Below W.heap.size W W') : Sqr W' q ap ae cp ce := ⟨h.rp.keep hb, h.re.keep hb⟩
theorem Scs.keep {W W' : World} {ao : Option Addr} {qs : List Sq} (h : Scs W ao qs) (hb : Below W.heap.size W W') : Scs W' ao qs :=
  ⟨fun i q hq => by
    obtain ⟨g, o, ap, cp, ae, ce, h0, h1, h2, h3, h4, h5, h6⟩ := h.cells i q hq
    exact ⟨g, o, ap, cp, ae, ce, h0, by rw [hb.cell (lt_cell h1)]; exact h1, by rw [hb.cell (lt_cell h2)]; exact h2, by rw [hb.cell (lt_cell h3)]; exact h3, by rw [hb.cell (lt_cell h4)]; exact h4, by rw [hb.cell (lt_cell h5)]; exact h5, h6.keep hb⟩, h.small⟩

set_option maxHeartbeats 1000000 in
theorem Bytes_own (sb bb : Nat) (vo va : Value) (O A : List UInt8) (t : Tr) (a : Option Addr) (e : Int) (base n : Nat) (w : World) (hSh : Hid (Sh w base sb bb vo va O A t a e)) (hw : Hid t.whole) (hg : Hid (Gds O A t.list)) (hz : Hid ((txt O A t.list).length ≤ 1048576)) (hn : Hid ((txt O A t.list).length = n)) :
    Calls Try.prog 33 #[.pointer (some ⟨sb, 0, none⟩)] w fun e' w' => ∃ ao c, e' = .returned (.slice ao n c) ∧ w'.ownsRow w.heap.size 5 1 (.slice ao n c) n (Ab.bv (txt O A t.list)) ∧ Below w.heap.size w w' := by
  have hb : t.byt = (n : Int) := by rw [byt_list, ← txt_len hg.out, hn.out]
  have HL := hid (fun W (hW : Below w.heap.size w W) => sLen_any (some ⟨sb, 0, none⟩) a e t W (hSh.out.keep hW).sht (hSh.out.tree.keep hW))
  rw [hb] at HL
  have HR := hid (fun W (hW : Below w.heap.size w W) => read_any sb bb vo va O A t a e base 0 n W (hSh.out.keep hW) hw hg hz.out (Nat.zero_le _) (by rw [hn.out]; exact Nat.le_refl _))
  simp only [List.drop_zero, Nat.sub_zero] at HR
  rw [List.take_of_length_le (by rw [hn.out]; exact Nat.le_refl _)] at HR
  clear hb
  go_enter Try.func33, Try.ntmps33
  go_wp2_with (first | (go_at_call 34; refine (HL.out _ (Below.refl _ _)).mono ?_; rintro e9 w9 ⟨rfl, hb9⟩) | (go_at_call 73; refine (HR.out _ hb9).mono ?_; rintro e8 w8 ⟨ao, c, rfl, hr8, hb8⟩; have R8 := hid hr8; clear hr8))
  go_ret
  exact ⟨_, _, rfl, Ab.own_lower R8.out hb9.size, bT hb9 hb8⟩
end Go.Proofs.Ytpifjghhlcjedaa

