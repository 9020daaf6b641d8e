/- A sheet's questions: Byte, Slice, LineOf. -/
import Derived.Test.YtmhpeppbhjpkiaaGreatPm19
import Derived.Test.YtmhpeppbhjpkiaaGreatPm22
import Derived.Test.YtmhpeppbhjpkiaaGreatPm39
import Derived.Test.YtmhpeppbhjpkiaaGreatPm29
import Derived.Test.YtmhpeppbhjpkiaaGreatPm35
import Derived.Laws.OwnMore
namespace Go.Proofs.YtmhpeppbhjpkiaaGreat
open Go.RowKit

/-- A byte of the text, told by its piece. -/
theorem hit_byte {O A : List UInt8} {L : List Pc} {m : Int} {j : Nat} {x : Int} {p : Pc} (hg : Gds O A L) (hp : L[j]? = some p) (hx0 : 0 ≤ x) (hx1 : x < p.l) (hm : m = sB (L.take j) + x) : (txt O A L).getD m.toNat 0 = (pcs O A p).getD x.toNat 0 := by
  have hlt := (List.getElem?_eq_some_iff.1 hp).1
  have e : L = L.take j ++ p :: L.drop (j + 1) := by
    conv => lhs; rw [← List.take_append_drop j L]
    rw [List.drop_eq_getElem_cons hlt]
    obtain ⟨_, e⟩ := List.getElem?_eq_some_iff.1 hp
    rw [e]
  have et : txt O A L = txt O A (L.take j) ++ (pcs O A p ++ txt O A (L.drop (j + 1))) := by
    conv => lhs; rw [e]
    rw [txt_append, txt_cons]
  have l1 := txt_len (hg.take j)
  have l2 := (hg.at hp).len
  have em : m.toNat = (txt O A (L.take j)).length + x.toNat := by omega
  rw [et, em, List.getD_eq_getElem?_getD, List.getD_eq_getElem?_getD, List.getElem?_append_right (by omega), Nat.add_sub_cancel_left, List.getElem?_append_left (by omega)]

set_option maxHeartbeats 2000000 in
theorem Byte_some (sb bb : Nat) (vo va : Value) (O A : List UInt8) (t : Tr) (a : Option Addr) (e : Int) (base : Nat) (m : Int) (w : World) (hSh : Hid (Sh w base sb bb vo va O A t a e)) (hg : Hid (Gds O A t.list)) (hz : Hid ((txt O A t.list).length ≤ 1048576)) (h0 : 0 ≤ m) (h1 : m < t.byt) :
    Calls Tryz.prog 27 #[.pointer (some ⟨sb, 0, none⟩), .int .i64 m] w fun e' w' => e' = .returned (.tuple #[.int .u8 (((txt O A t.list).getD m.toNat 0).toNat : Int), .int .i64 0]) ∧ Below w.heap.size w w' := by
  have hfine : t.fine := (Tr.fine_list t).2 (hg.out.fine hz.out)
  have HT := hid (fun W (hW : Below w.heap.size w W) => shTree_any (some ⟨sb, 0, none⟩) a e W (hSh.out.keep hW).sht)
  have HF := hid (fun W (hW : Below w.heap.size w W) => Find52_yes t a m W h0 h1 hfine (hSh.out.tree.keep hW))
  have HG := hid (fun j W (hj : j < t.size) (hW : Below w.heap.size w W) => Get_yes t a j W hj hfine.2 (hSh.out.tree.keep hW))
  have HS := hid (fun W (hW : Below w.heap.size w W) => (hSh.out.keep hW).here)
  go_enter Tryz.func27, Tryz.ntmps27
  go_wp2_with (first
    | (go_at_call 45; refine (HT.out _ (Below.refl _ _)).mono ?_; rintro e9 w9 ⟨rfl, b9⟩)
    | (go_at_call 59; refine (HF.out _ b9).mono ?_; rintro e8 w8 ⟨j, x0, rfl, hit, hb8⟩; have b8 := b9.trans (hb8.mono b9.size); obtain ⟨x, rfl⟩ : ∃ x : Nat, x0 = x := (by obtain ⟨pp, _, q, _⟩ := hit; exact ⟨x0.toNat, by omega⟩); have HIT := hid hit; have hj : j < t.size := (by rw [← t.size_list]; exact hit_lt52 hit); clear hit hb8; obtain ⟨c0, c1, c2, _, _, _⟩ := sh_cells (HS.out _ b8))
    | (go_at_call 60; refine (HG.out j _ hj b8).mono ?_; rintro e7 w7 ⟨ps, po0, pl0, pn, hget, rfl, hb7⟩; have b7 := b8.trans (hb7.mono b8.size); have HGT := hid hget; obtain ⟨po, pl, e1, e2, k1, k2, k3⟩ := Ab.hd_parts (hg.out.at hget).hold; simp only at e1 e2 k1 k2; subst e1 e2; clear hget hb7 c0 c1 c2))
  have b6 := bAlloc b7 (.cells #[.int .i64 ps, .int .i64 po, .int .i64 pl, .int .i64 pn] 59)
  have P6 := World.alloc_heap_new w7 (.cells #[.int .i64 ps, .int .i64 po, .int .i64 pl, .int .i64 pn] 59)
  generalize w7.alloc (.cells #[.int .i64 ps, .int .i64 po, .int .i64 pl, .int .i64 pn] 59) = w6 at *
  obtain ⟨c0, c1, c2, _, _, _⟩ := sh_cells (HS.out _ b6)
  obtain ⟨d0, d1, d2, d3⟩ := four_cells P6
  have HP6 := hid P6
  clear P6
  have hxl : x < pl := by
    obtain ⟨pp, q1, q2, q3, q4⟩ := HIT.out
    rw [HGT.out] at q1
    cases q1
    simp only at q3
    omega
  have HBy := hid (fun W (hW : Below w.heap.size w W) => Ab.byte_yes (some ⟨bb, 0, none⟩) ps po pl x O A base W k1 k2 hxl (hSh.out.keep hW).shb.buf)
  go_region_held3 (fun w' => w'.cell? ⟨sb, 0, none⟩ = some (.pointer (some ⟨bb, 0, none⟩)) ∧ w'.cell? ⟨w7.heap.size, 0, none⟩ = some (.int .i64 ps) ∧ w'.cell? ⟨w7.heap.size, 1, none⟩ = some (.int .i64 po) ∧ w'.cell? ⟨w7.heap.size, 2, none⟩ = some (.int .i64 pl)) (first | assumption | simp [*, go_sem])
    (first | (go_at_call 61; refine (HBy.out _ b6.drew).mono ?_; rintro e5 w5 ⟨rfl, hb5⟩; have b5 := b6.trans ((bD hb5).mono b6.size); obtain ⟨c0, c1, c2, _, _, _⟩ := sh_cells (HS.out _ b5); obtain ⟨d0, d1, d2, d3⟩ := four_cells (((bD hb5).block _ (sh_lt HP6.out)).trans HP6.out)))
  go_wp2
  obtain ⟨pp, q1, q2, q3, q4⟩ := HIT.out
  rw [HGT.out] at q1
  cases q1
  have hb := hit_byte hg.out HGT.out q2 q3 q4
  refine bodyPost_ret (v := .tuple #[.int .u8 (((txt O A t.list).getD m.toNat 0).toNat : Int), .int .i64 0]) ?_ rfl ⟨rfl, b5⟩
  rw [hb]
  simp [results, Tryz.results27, go_sem, Ab.at8, pcs]

set_option maxHeartbeats 1000000 in
theorem Byte_no (p a : Option Addr) (e : Int) (t : Tr) (m : Int) (w : World) (hS : Hid (ShT w p a e)) (hT : Hid (At w t a)) (hm : m < 0 ∨ t.byt ≤ m) :
    Calls Tryz.prog 27 #[.pointer p, .int .i64 m] w fun e' w' => e' = .returned (.tuple #[.int .u8 0, .int .i64 30]) ∧ Below w.heap.size w w' := by
  have HF := hid (fun W (hW : Below w.heap.size w W) => Find52_no t a m W hm (hT.out.keep hW))
  have HT := hid (shTree_any p a e w hS)
  clear hm
  go_enter Tryz.func27, Tryz.ntmps27
  go_wp2_with (first
    | (go_at_call 45; refine HT.out.mono ?_; rintro e9 w9 ⟨rfl, b9⟩)
    | (go_at_call 59; refine (HF.out _ b9).mono ?_; rintro e8 w8 ⟨rfl, hb8⟩))
  exact bodyPost_ret (v := .tuple #[.int .u8 0, .int .i64 30]) (by simp [results, Tryz.results27, go_sem]) rfl ⟨rfl, b9.trans (hb8.mono b9.size)⟩

set_option maxHeartbeats 1000000 in
theorem Slice_no (p a : Option Addr) (e : Int) (t : Tr) (x y : Int) (w : World) (hS : Hid (ShT w p a e)) (hT : Hid (At w t a)) (hd : decide (0 ≤ x ∧ x ≤ y ∧ y ≤ t.byt) = false) :
    Calls Tryz.prog 25 #[.pointer p, .int .i64 x, .int .i64 y] w fun e' w' => e' = .returned (.tuple #[.slice none 0 0, .int .i64 30]) ∧ Below w.heap.size w w' := by
  have HR := hid (hasRange_any p a e t x y w hS hT)
  rw [hd] at HR
  clear hd
  go_enter Tryz.func25, Tryz.ntmps25
  go_wp2_with (go_at_call 42; refine HR.out.mono ?_; rintro e9 w9 ⟨rfl, b9⟩)
  exact bodyPost_ret (v := .tuple #[.slice none 0 0, .int .i64 30]) (by simp [results, Tryz.results25, go_sem]) rfl ⟨rfl, b9⟩

set_option maxHeartbeats 1000000 in
theorem Slice_some (sb bb : Nat) (vo va : Value) (O A : List UInt8) (t : Tr) (a : Option Addr) (e : Int) (base : Nat) (x y : Nat) (w : World) (hSh : Hid (Sh w base sb bb vo va O A t a e)) (hw : Hid t.whole) (hg : Hid (Gds O A t.list)) (hz : Hid ((txt O A t.list).length ≤ 1048576)) (hxy : x ≤ y) (hy : y ≤ (txt O A t.list).length) :
    Calls Tryz.prog 25 #[.pointer (some ⟨sb, 0, none⟩), .int .i64 (x : Int), .int .i64 (y : Int)] w fun e' w' => ∃ ao c, e' = .returned (.tuple #[.slice ao (y - x) c, .int .i64 0]) ∧ w'.ownsRow w.heap.size 5 1 (.slice ao (y - x) c) (y - x) (Ab.bv (((txt O A t.list).drop x).take (y - x))) ∧ Below w.heap.size w w' := by
  have hb := txt_len hg.out
  rw [← byt_list] at hb
  have hd : decide (0 ≤ (x : Int) ∧ (x : Int) ≤ (y : Int) ∧ (y : Int) ≤ t.byt) = true := by simp; omega
  have HR := hid (hasRange_any (some ⟨sb, 0, none⟩) a e t x y w hSh.out.sht hSh.out.tree)
  rw [hd] at HR
  have HRd : Hid (∀ W, Below w.heap.size w W → Calls Tryz.prog 44 #[.pointer (some ⟨sb, 0, none⟩), .int .i64 (x : Int), .int .i64 (y : Int)] W fun e' w' => ∃ ao c, e' = .returned (.slice ao (y - x) c) ∧ w'.ownsRow W.heap.size 5 1 (.slice ao (y - x) c) (y - x) (Ab.bv (((txt O A t.list).drop x).take (y - x))) ∧ Below W.heap.size W w') := fun W hW => by
    rcases Nat.lt_or_ge x y with h | h
    · exact read_some sb bb vo va O A t a e base x y W (hid (hSh.out.keep hW)) hw hg hz.out h hy
    · obtain rfl : x = y := by omega
      exact (read_none _ _ W).mono fun e' w' ⟨h1, h2⟩ => ⟨none, 0, by rw [h1, Nat.sub_self], by rw [Nat.sub_self, List.take_zero]; exact World.ownsRow_nil _ _ _ _, h2⟩
  clear hd hb
  go_enter Tryz.func25, Tryz.ntmps25
  go_wp2_with (first | (go_at_call 42; refine HR.out.mono ?_; rintro e9 w9 ⟨rfl, b9⟩) | (go_at_call 44; refine (HRd.out _ b9).mono ?_; rintro e8 w8 ⟨ao, c, rfl, hr8, hb8⟩; have R8 := hid hr8; clear hr8))
  exact bodyPost_ret (v := .tuple #[.slice ao (y - x) c, .int .i64 0]) (by simp [results, Tryz.results25, go_sem]) rfl ⟨ao, c, rfl, Ab.own_lower R8.out b9.size, b9.trans (hb8.mono b9.size)⟩

/-- The line ends ahead of a place, told by its piece. -/
theorem hit_lines {O A : List UInt8} {L : List Pc} {m : Int} {j : Nat} {x : Int} {p : Pc} (hg : Gds O A L) (hp : L[j]? = some p) (hx0 : 0 ≤ x) (hx1 : x < p.l) (hm : m = sB (L.take j) + x) : (Ab.nl ((txt O A L).take m.toNat) : Int) = sL (L.take j) + (Ab.nl ((pcs O A p).take x.toNat) : Nat) := by
  have hlt := (List.getElem?_eq_some_iff.1 hp).1
  have e : L = L.take j ++ p :: L.drop (j + 1) := by
    conv => lhs; rw [← List.take_append_drop j L]
    rw [List.drop_eq_getElem_cons hlt]
    obtain ⟨_, e⟩ := List.getElem?_eq_some_iff.1 hp
    rw [e]
  have et : txt O A L = txt O A (L.take j) ++ (pcs O A p ++ txt O A (L.drop (j + 1))) := by
    conv => lhs; rw [e]
    rw [txt_append, txt_cons]
  have l1 := txt_len (hg.take j)
  have l2 := (hg.at hp).len
  have n1 := txt_nl (hg.take j)
  have em : m.toNat = (txt O A (L.take j)).length + x.toNat := by omega
  rw [et, em, List.take_append, List.take_of_length_le (by omega), Nat.add_sub_cancel_left, nl_append, List.take_append_of_le_length (by omega)]
  push_cast
  omega

end Go.Proofs.YtmhpeppbhjpkiaaGreat

/- What the law SheetFresh leans on: a script in memory, the bytes of a sheet as a row of their own. -/
namespace Go.Proofs.YtmhpeppbhjpkiaaGreat
open Go.RowKit

theorem apT_len : ∀ (es : List Ed) (T T' : List UInt8), apT T es = some T' → T'.length ≤ T.length + nsum es
  | [], T, T', h => by
    have : T = T' := by simpa [apT] using h
    subst this; exact Nat.le_add_right _ _
  | d :: ds, T, T', h => by
    unfold apT at h
    cases hf : edB T d with
    | false => rw [hf] at h; cases h
    | true =>
      rw [hf, if_pos rfl] at h
      have h1 := apT_len ds _ _ h
      have h2 := edT_len hf
      show T'.length ≤ T.length + (d.new.length + nsum ds)
      omega
theorem stT_len {T T' : List UInt8} {q : Sq} (h : stT T q = some T') : T'.length ≤ T.length + qby q := by
  unfold stT at h
  unfold qby
  split at h
  · split at h
    · simp only [Option.some.injEq] at h
      subst h
      simp only [List.length_append, List.length_take, List.length_drop]
      omega
    · cases h
  · split at h
    · split at h
      · simp only [Option.some.injEq] at h
        subst h
        simp only [List.length_append, List.length_take, List.length_drop]
        omega
      · cases h
    · split at h
      · have := apT_len _ _ _ h; omega
      · have : T = T' := by simpa using h
        subst this; omega
def qsum : List Sq → Nat
  | [] => 0
  | q :: qs => qby q + qsum qs
def qeds : List Sq → Nat
  | [] => 0
  | q :: qs => qed q + qeds qs
theorem qsum_drop {qs : List Sq} {i : Nat} {q : Sq} (h : qs[i]? = some q) : qsum (qs.drop i) = qby q + qsum (qs.drop (i + 1)) := by
  obtain ⟨hi, rfl⟩ := List.getElem?_eq_some_iff.1 h
  rw [List.drop_eq_getElem_cons hi]; rfl
theorem qeds_drop {qs : List Sq} {i : Nat} {q : Sq} (h : qs[i]? = some q) : qeds (qs.drop i) = qed q + qeds (qs.drop (i + 1)) := by
  obtain ⟨hi, rfl⟩ := List.getElem?_eq_some_iff.1 h
  rw [List.drop_eq_getElem_cons hi]; rfl
/-- a script in memory -/
structure Scs (W : World) (ao : Option Addr) (qs : List Sq) : Prop where
  cells : ∀ (i : Nat) (q : Sq), qs[i]? = some q → ∃ g o ap cp ae ce, ao = some ⟨g, o, none⟩ ∧ W.cell? ⟨g, o + i * 5, none⟩ = some (.int .i64 q.kind) ∧ W.cell? ⟨g, o + i * 5 + 1, none⟩ = some (.int .i64 q.a) ∧ W.cell? ⟨g, o + i * 5 + 2, none⟩ = some (.int .i64 q.b) ∧ W.cell? ⟨g, o + i * 5 + 3, none⟩ = some (.slice ap q.p.length cp) ∧ W.cell? ⟨g, o + i * 5 + 4, none⟩ = some (.slice ae q.es.length ce) ∧ Sqr W q ap ae cp ce
  small : ∀ q ∈ qs, q.es.length ≤ 1048576 ∧ ∀ d ∈ q.es, d.old.length ≤ 1048576
theorem Sqr.keep {W W' : World} {q : Sq} {ap ae : Option Addr} {cp ce : Nat} (h : Sqr W q ap ae cp ce) (hb : Below W.heap.size W W') : Sqr W' q ap ae cp ce := ⟨h.rp.keep hb, h.re.keep hb⟩
theorem Scs.keep {W W' : World} {ao : Option Addr} {qs : List Sq} (h : Scs W ao qs) (hb : Below W.heap.size W W') : Scs W' ao qs :=
  ⟨fun i q hq => by
    obtain ⟨g, o, ap, cp, ae, ce, h0, h1, h2, h3, h4, h5, h6⟩ := h.cells i q hq
    exact ⟨g, o, ap, cp, ae, ce, h0, by rw [hb.cell (lt_cell h1)]; exact h1, by rw [hb.cell (lt_cell h2)]; exact h2, by rw [hb.cell (lt_cell h3)]; exact h3, by rw [hb.cell (lt_cell h4)]; exact h4, by rw [hb.cell (lt_cell h5)]; exact h5, h6.keep hb⟩, h.small⟩

set_option maxHeartbeats 1000000 in
theorem Bytes_own (sb bb : Nat) (vo va : Value) (O A : List UInt8) (t : Tr) (a : Option Addr) (e : Int) (base n : Nat) (w : World) (hSh : Hid (Sh w base sb bb vo va O A t a e)) (hw : Hid t.whole) (hg : Hid (Gds O A t.list)) (hz : Hid ((txt O A t.list).length ≤ 1048576)) (hn : Hid ((txt O A t.list).length = n)) :
    Calls Tryz.prog 14 #[.pointer (some ⟨sb, 0, none⟩)] w fun e' w' => ∃ ao c, e' = .returned (.slice ao n c) ∧ w'.ownsRow w.heap.size 5 1 (.slice ao n c) n (Ab.bv (txt O A t.list)) ∧ Below w.heap.size w w' := by
  have hb : t.byt = (n : Int) := by rw [byt_list, ← txt_len hg.out, hn.out]
  have HL := hid (fun W (hW : Below w.heap.size w W) => sLen_any (some ⟨sb, 0, none⟩) a e t W (hSh.out.keep hW).sht (hSh.out.tree.keep hW))
  rw [hb] at HL
  have HR := hid (fun W (hW : Below w.heap.size w W) => read_any sb bb vo va O A t a e base 0 n W (hSh.out.keep hW) hw hg hz.out (Nat.zero_le _) (by rw [hn.out]; exact Nat.le_refl _))
  simp only [List.drop_zero, Nat.sub_zero] at HR
  rw [List.take_of_length_le (by rw [hn.out]; exact Nat.le_refl _)] at HR
  clear hb
  go_enter Tryz.func14, Tryz.ntmps14
  go_wp2_with (first | (go_at_call 39; refine (HL.out _ (Below.refl _ _)).mono ?_; rintro e9 w9 ⟨rfl, hb9⟩) | (go_at_call 44; refine (HR.out _ hb9).mono ?_; rintro e8 w8 ⟨ao, c, rfl, hr8, hb8⟩; have R8 := hid hr8; clear hr8))
  go_ret
  exact ⟨_, _, rfl, Ab.own_lower R8.out hb9.size, bT hb9 hb8⟩
end Go.Proofs.YtmhpeppbhjpkiaaGreat

/- quoinlaw04.height of a tree's rows: its height, and how many rows it takes up; quoinlaw04.line and starts. -/
namespace Go.Proofs.YtmhpeppbhjpkiaaGreat
open Go.RowKit

theorem size_has {t : Tr} (h : t.has = true) : 1 ≤ t.size := by
  cases t using Tr.el with
  | nil => cases h
  | node c l p r => simp only [Tr.size]; omega
theorem size_none {t : Tr} (h : t.has = false) : t.size = 0 ∧ t.ht = 0 := by
  cases t using Tr.el with
  | nil => exact ⟨rfl, rfl⟩
  | node c l p r => cases h
theorem ht_size : ∀ t : Tr, t.ht ≤ t.size
  | (Tr.mk none) => Nat.le_refl _
  | (Tr.mk (some (_, l, _, r))) => by
    have h1 := ht_size l
    have h2 := ht_size r
    simp only [Tr.ht, Tr.size]; omega

end Go.Proofs.YtmhpeppbhjpkiaaGreat

/- quoinlaw04.starts and line: the line starts of a text, the line of a place. -/
namespace Go.Proofs.YtmhpeppbhjpkiaaGreat
open Go.RowKit

/-- byte number k, 0 beyond the end -/
def b8 (T : List UInt8) (k : Nat) : UInt8 := T.getD k 0
/-- the line starts among the first k places -/
def sts (T : List UInt8) : Nat → List Nat
  | 0 => [0]
  | k + 1 => if ((b8 T k).toNat : Int) == 10 then sts T k ++ [k + 1] else sts T k
theorem ten_eq (b : UInt8) : (((b.toNat : Int) == 10) = true) ↔ (b == 10) = true := by
  simp only [beq_iff_eq]
  constructor
  · intro h
    have h1 : b.toNat = 10 := by omega
    exact UInt8.toNat_inj.1 (by rw [h1]; rfl)
  · rintro rfl; rfl
theorem nl_succ (T : List UInt8) (k : Nat) (h : k < T.length) : Ab.nl (T.take (k + 1)) = Ab.nl (T.take k) + if ((b8 T k).toNat : Int) == 10 then 1 else 0 := by
  unfold Ab.nl
  rw [List.take_succ_eq_append_getElem h, List.countP_append]
  have e : b8 T k = T[k] := by simp [b8, List.getD, h]
  rw [e]
  by_cases hb : ((T[k].toNat : Int) == 10) = true
  · rw [if_pos hb, List.countP_cons, List.countP_nil, if_pos ((ten_eq _).1 hb)]
  · rw [if_neg hb, List.countP_cons, List.countP_nil, if_neg (fun h => hb ((ten_eq _).2 h))]
theorem sts_len (T : List UInt8) : ∀ k, k ≤ T.length → (sts T k).length = Ab.nl (T.take k) + 1
  | 0, _ => rfl
  | k + 1, h => by
    have ih := sts_len T k (by omega)
    rw [nl_succ T k (by omega)]
    unfold sts
    split
    · rw [List.length_append, ih]; rfl
    · rw [ih]
theorem nl_up (T : List UInt8) {i j : Nat} (h : i ≤ j) : Ab.nl (T.take i) ≤ Ab.nl (T.take j) := by
  have e : T.take j = T.take i ++ (T.drop i).take (j - i) := by rw [← List.take_add]; congr 1; omega
  unfold Ab.nl
  rw [e, List.countP_append]; omega
/-- where a line begins that is behind a line end -/
theorem sts_at (T : List UInt8) (q : Nat) (hq : q < T.length) (h10 : (((b8 T q).toNat : Int) == 10) = true) : ∀ k, q < k → k ≤ T.length → (sts T k)[Ab.nl (T.take q) + 1]? = some (q + 1)
  | 0, h, _ => by omega
  | k + 1, h, hk => by
    have hl := sts_len T k (by omega)
    unfold sts
    by_cases e : q = k
    · subst e
      rw [if_pos h10, List.getElem?_append_right (by omega), hl, Nat.sub_self]; rfl
    · have ih := sts_at T q hq h10 k (by omega) (by omega)
      have h2 := nl_succ T q hq
      rw [if_pos h10] at h2
      have h3 := nl_up T (i := q + 1) (j := k) (by omega)
      split
      · rw [List.getElem?_append_left (by omega)]; exact ih
      · exact ih
theorem sts_zero (T : List UInt8) : ∀ k, (sts T k)[0]? = some 0
  | 0 => rfl
  | k + 1 => by
    unfold sts
    split
    · rw [List.getElem?_append_left (by cases h : sts T k with | nil => have := sts_zero T k; rw [h] at this; cases this | cons x y => simp)]; exact sts_zero T k
    · exact sts_zero T k
/-- numbers as cells -/
def ivs (Z : List Nat) : List Value := Z.map fun (k : Nat) => Value.int .i64 (k : Int)
theorem ivs_length (Z : List Nat) : (ivs Z).length = Z.length := by simp [ivs]
theorem ivs_snoc (Z : List Nat) (k : Nat) : ivs (Z ++ [k]) = ivs Z ++ [.int .i64 (k : Int)] := by simp [ivs]
theorem info3 : (Tryz.prog.info? 3).map (fun i => (i.zero, i.size, i.bytes)) = some (some (.int .i64 0), 1, 8) := by kernel_rfl
/-- bytes that can be read, cell by cell -/
theorem rd_at {W : World} {ao : Option Addr} {c : Nat} {l : List UInt8} (h : Ab.Rd W (.slice ao l.length c) l) (hn : 0 < l.length) : ∃ g o, ao = some ⟨g, o, none⟩ ∧ ∀ j, j < l.length → W.cell? ⟨g, o + j, none⟩ = some (.int .u8 ((b8 l j).toNat : Int)) := by
  rcases h with ⟨_, h0⟩ | ⟨ad, c', h0, hc⟩
  · rw [h0] at hn; simp at hn
  · simp only [Value.slice.injEq] at h0
    obtain ⟨rfl, -, -⟩ := h0
    have cell : ∀ j, j < l.length → W.cell? (ad.add j) = some (.int .u8 ((b8 l j).toNat : Int)) := fun j hj => by
      rw [hc j (.int .u8 ((b8 l j).toNat : Int)) (by simp [Ab.bv, b8, List.getD, hj])]
    obtain ⟨g, o, s⟩ := ad
    have hs : s = none := by simpa [Addr.add] using World.cell?_spot (cell 0 hn)
    subst hs
    exact ⟨g, o, rfl, fun j hj => by have := cell j hj; rwa [Go.WideShapes.add_plain] at this⟩

set_option maxHeartbeats 2000000 in
theorem starts_any (ao : Option Addr) (c : Nat) (l : List UInt8) (w : World) (hz : l.length ≤ 1048576) (hR : Hid (Ab.Rd w (.slice ao l.length c) l)) :
    Calls Tryz.prog 28 #[.slice ao l.length c] w fun e w' => ∃ v, e = .returned v ∧ w'.ownsRow w.heap.size 3 1 v (sts l l.length).length (ivs (sts l l.length)) ∧ Below w.heap.size w w' := by
  obtain ⟨i3, hi3, hz3, hs3, hb3⟩ := info_parts info3
  have hzI : (l.length : Int) ≤ 1048576 := by omega
  have SL := hid (sts_len l)
  have NL := hid (fun k => (show Ab.nl (l.take k) ≤ k from Nat.le_trans (Ab.nl_le _) (List.length_take_le _ _)))
  go_enter Tryz.func28, Tryz.ntmps28
  go_wp2_with fail
  go_loopw [3, 9] (fun u v wr => ∃ k : Nat, v = .int .i64 k ∧ k ≤ l.length ∧ wr.ownsRow w.heap.size 3 1 u (sts l k).length (ivs (sts l k)) ∧ Below w.heap.size w wr) (fun _ v _ => l.length - (intOf v).toNat)
  case atStart => exact ⟨0, rfl, Nat.zero_le _, World.ownsRow_lit w #[.int .i64 0] 1 (Nat.le_refl _) (by decide) rfl, bAlloc (Below.refl _ _) _⟩
  case round =>
    obtain ⟨k, rfl, hk, hO, hB⟩ := hrel
    have HO := hid hO
    have HB := hid hB
    clear hO hB
    have hk0 : (0 : Int) ≤ (k : Int) := by omega
    by_cases hlt : k < l.length
    · have hk1 : (k : Int) < (l.length : Int) := by omega
      obtain ⟨g, o, rfl, hc⟩ := rd_at (hR.out.keep HB.out) (by omega)
      have c1 := hc k hlt
      clear hc
      obtain ⟨ax, cx, hu⟩ := own_shape HO.out
      subst hu
      have hll : Hid ((sts l k).length ≤ k + 1) := (by unfold Hid; rw [SL.out k hk]; have := NL.out k; omega)
      cases hb : (((b8 l k).toNat : Int) == 10) with
      | true =>
        have HC := hid (show sts l (k + 1) = sts l k ++ [k + 1] by conv => { lhs; unfold sts }; rw [if_pos hb])
        go_wp2_with (at_builtin; refine Rk.append_srv rfl (.tmp 16) (.tmp 19) 70 rfl w.heap.size 3 i3 (.int .i64 0) 1 8 Tryz.underlying70 hi3 hz3 hs3 hb3 rfl (by decide) (.slice ax (sts l k).length cx) (sts l k).length (ivs (sts l k)) rfl (HO.out.alloc _) (.slice (some ⟨wr.heap.size, 0, none⟩) 1 1) 1 [.int .i64 ((k : Int) + 1)] rfl (.inr ⟨⟨wr.heap.size, 0, none⟩, 1, rfl, fun j t hj => lit_cells wr _ 3 j t hj⟩) rfl ?r1 ?r2 ?r3 ?r4 ?_)
        case r1 => intro u hu; simp at hu; subst hu; rfl
        case r2 => have := hll.out; unfold maxLen; omega
        case r3 => have := hll.out; omega
        case r4 => have := HB.out.size; simp; omega
        intro v2 w3 hown2 hgrow2 hfr2
        have B3 : Hid (Below w.heap.size w w3) := (bAlloc HB.out _).grown hgrow2 (by have := HB.out.size; simp; omega) (fun k hk => (HO.out.lt k hk).1)
        have O3 : Hid (w3.ownsRow w.heap.size 3 1 v2 (sts l (k + 1)).length (ivs (sts l (k + 1)))) := by
          unfold Hid
          rw [HC.out, ivs_snoc, List.length_append]
          exact hown2
        clear hown2 hgrow2 hfr2 HO HB
        go_wp2
        go_roundw
        case rel => exact ⟨k + 1, by go_num, by omega, O3.out, B3.out⟩
        case measure => simp [intOf]; omega
      | false =>
        have HC := hid (show sts l (k + 1) = sts l k by conv => { lhs; unfold sts }; rw [if_neg (by rw [hb]; simp)])
        go_wp2
        go_roundw
        case rel => exact ⟨k + 1, by go_num, by omega, by rw [HC.out]; exact HO.out, HB.out⟩
        case measure => simp [intOf]; omega
    · have hk1 : ¬ ((k : Int) < (l.length : Int)) := by omega
      obtain rfl : k = l.length := by omega
      go_wp2
      go_ret
      exact ⟨_, rfl, HO.out, HB.out⟩

set_option maxHeartbeats 2000000 in
theorem line_any (ao : Option Addr) (c x : Nat) (l : List UInt8) (w : World) (hz : l.length ≤ 1048576) (hc0 : l.length ≤ c) (hx : x ≤ l.length) (hR : Hid (Ab.Rd w (.slice ao l.length c) l)) :
    Calls Tryz.prog 32 #[.slice ao l.length c, .int .i64 (x : Int)] w fun e w' => e = .returned (.int .i64 (Ab.nl (l.take x) : Int)) ∧ w' = w := by
  have hzI : (l.length : Int) ≤ 1048576 := by omega
  have hx0 : (0 : Int) ≤ (x : Int) := by omega
  have hx1 : (x : Int) ≤ (c : Int) := by omega
  have hx2 : (x : Int) ≤ 1048576 := by omega
  have NL := hid (fun k => (show Ab.nl (l.take k) ≤ k from Nat.le_trans (Ab.nl_le _) (List.length_take_le _ _)))
  go_enter Tryz.func32, Tryz.ntmps32
  go_wp2_with fail
  all_goals
    go_loopw [5, 12] (fun u v wr => ∃ k : Nat, v = .int .i64 k ∧ u = .int .i64 (Ab.nl (l.take k) : Int) ∧ k ≤ x ∧ wr = w) (fun _ v _ => x - (intOf v).toNat)
    case atStart => exact ⟨0, rfl, rfl, Nat.zero_le _, rfl⟩
    case round =>
      obtain ⟨k, rfl, rfl, hk, hw⟩ := hrel
      subst hw
      have hk0 : (0 : Int) ≤ (k : Int) := by omega
      have hnk : (Ab.nl (l.take k) : Int) ≤ 1048576 := by have := NL.out k; omega
      have hnk0 : (0 : Int) ≤ (Ab.nl (l.take k) : Int) := by omega
      by_cases hlt : k < x
      · have hk1 : (k : Int) < (x : Int) := by omega
        obtain ⟨g, o, rfl, hc⟩ := rd_at hR.out (by omega)
        have c1 := hc k (by omega)
        clear hc
        have HS := hid (nl_succ l k (by omega))
        cases hb : (((b8 l k).toNat : Int) == 10) with
        | true =>
          rw [hb, if_pos rfl] at HS
          go_wp2
          go_roundw
          case rel => exact ⟨k + 1, by go_num, by rw [HS.out]; go_num, by omega, by trivial⟩
          case measure => simp [intOf]; omega
        | false =>
          rw [hb, if_neg (by simp)] at HS
          go_wp2
          go_roundw
          case rel => exact ⟨k + 1, by go_num, by rw [HS.out]; rfl, by omega, by trivial⟩
          case measure => simp [intOf]; omega
      · have hk1 : ¬ ((k : Int) < (x : Int)) := by omega
        obtain rfl : k = x := by omega
        go_wp2
        go_ret
        exact ⟨rfl, rfl⟩
end Go.Proofs.YtmhpeppbhjpkiaaGreat

