/- The walk of quoinlaw04.SheetPlain: it answers true for every text and every script, of a bulk. -/
import Derived.Test.YtpifjghhlcjedaaPm30
import Derived.Test.YtpifjghhlcjedaaPm32
import Derived.Test.YtpifjghhlcjedaaPm23
import Derived.Test.YtpifjghhlcjedaaPm38
import Derived.Test.YtpifjghhlcjedaaPm25
import Derived.Deep.LoopGhost
import Derived.Deep.CutRange
namespace Go.Proofs.Ytpifjghhlcjedaa
open Go.RowKit

theorem gds_fineP {O A : List UInt8} {t : Tr} (hg : Gds O A t.list) (hz : (txt O A t.list).length ≤ 1048576) : t.fine :=
  ⟨(Tr.fits_list t).2 (fun p hp => (hg p hp).fit), by rw [← t.size_list]; exact Nat.le_trans (len_le_txt hg) hz⟩
theorem ns_le : ∀ {es : List Ed} {d : Ed}, d ∈ es → d.new.length ≤ nsum es
  | x :: r, d, h => by
    unfold nsum
    rcases List.mem_cons.1 h with rfl | h
    · omega
    · have := ns_le h; omega
/-- the text's block is among the kept ones -/
def Tk (K : List (Nat × Obj)) (T : List UInt8) (ta : Option Addr) : Prop := ∀ a, ta = some a → 0 < T.length → ∃ o, (a.block, o) ∈ K
theorem rd_block {W : World} {v : Value} {l : List UInt8} {ta : Option Addr} {n c : Nat} (h : Ab.Rd W v l) (hv : v = .slice ta n c) (hl : 0 < l.length) : ∃ a o, ta = some a ∧ W.heap[a.block]? = some o := by
  rcases h with ⟨_, h2⟩ | ⟨a, c', rfl, h2⟩
  · rw [h2] at hl; simp at hl
  · cases hv
    have hx : (Ab.bv l)[0]? = some ((Ab.bv l)[0]'(by rw [Ab.bv_length]; exact hl)) := List.getElem?_eq_getElem _
    have h3 := lt_cell (h2 0 _ hx)
    have e : (a.add 0).block = a.block := by unfold Addr.add; split <;> rfl
    rw [e] at h3
    exact ⟨a, _, rfl, Array.getElem?_eq_getElem h3⟩
theorem rd_of_block {W W' : World} {ta : Option Addr} {n c : Nat} {l : List UInt8} (h : Ab.Rd W (.slice ta n c) l) (hk : ∀ a, ta = some a → 0 < l.length → W'.heap[a.block]? = W.heap[a.block]?) : Ab.Rd W' (.slice ta n c) l := by
  rcases h with ⟨h1, h2⟩ | ⟨a, c', h1, h2⟩
  · exact .inl ⟨h1, h2⟩
  · refine .inr ⟨a, c', h1, fun j u hu => ?_⟩
    cases h1
    have hl : 0 < l.length := by have := (List.getElem?_eq_some_iff.1 hu).1; rw [Ab.bv_length] at this; omega
    have h3 := h2 j u hu
    rw [← h3]
    have e : (a.add j).block = a.block := by unfold Addr.add; split <;> rfl
    unfold World.cell?
    rw [e, hk a rfl hl]
/-- a text stays where the sheet alone changes -/
theorem rd_held {K : List (Nat × Obj)} {w0 w0' W W' : World} {sb sb' : Nat} {O A T O' A' T' : List UInt8} {e e' : Int} {ta : Option Addr} {n c : Nat} {l : List UInt8} (h : Ab.Rd W (.slice ta n c) l) (hT : Tk K l ta) (h1 : Lz K w0 W sb O A T e) (h2 : Lz K w0' W' sb' O' A' T' e') : Ab.Rd W' (.slice ta n c) l :=
  rd_of_block h fun a ha hl => by
    obtain ⟨o, ho⟩ := hT a ha hl
    rw [h1.held ho, h2.held ho]
theorem plain_low {t : Tr} (hT : t.whole) (hz : t.size ≤ 1048574) : (2 : Int) ^ t.ht ≤ ((t.size : Int) + 1) * ((t.size : Int) + 1) ∧ t.ht ≤ 40 ∧ ((t.size : Int) + 1) * ((t.size : Int) + 1) ≤ 1099511627776 := by
  have h1 := Tr.whole_low hT
  have h2 : (t.size + 1) * (t.size + 1) ≤ 1048576 * 1048576 := Nat.mul_le_mul (by omega) (by omega)
  have h3 : t.ht ≤ 40 := by
    by_cases h : t.ht ≤ 40
    · exact h
    · have : 2 ^ 41 ≤ 2 ^ t.ht := Nat.pow_le_pow_right (by omega) (by omega)
      omega
  rw [show ((t.size : Int) + 1) = ((t.size + 1 : Nat) : Int) from by omega, ← Int.natCast_mul]
  refine ⟨?_, h3, ?_⟩
  · rw [show (2 : Int) ^ t.ht = ((2 ^ t.ht : Nat) : Int) from by rw [Int.natCast_pow]; rfl]
    exact Int.ofNat_le.2 h1
  · omega

theorem sb_bounds {L : List Pc} (h : ∀ p ∈ L, (1 : Int) ≤ p.l ∧ p.l ≤ 2147483647) : ∀ k : Nat, 0 ≤ sB (L.take k) ∧ sB (L.take k) ≤ (k : Int) * 2147483647
  | 0 => by simp [sB]
  | k + 1 => by
    have ih := sb_bounds h k
    rcases Nat.lt_or_ge k L.length with hk | hk
    · have e : sB (L.take (k + 1)) = sB (L.take k) + (L[k]).l := by unfold sB; rw [List.take_succ_eq_append_getElem hk, List.map_append, List.sum_append]; simp only [List.map_cons, List.map_nil, List.sum_cons, List.sum_nil, Int.add_zero]
      have hp := h L[k] (List.getElem_mem hk)
      rw [e]
      constructor
      · omega
      · rw [show ((k + 1 : Nat) : Int) * 2147483647 = (k : Int) * 2147483647 + 2147483647 from by omega]; omega
    · rw [List.take_of_length_le (by omega)] at *
      omega
theorem has_pos {t : Tr} (h : 0 < t.size) : t.has = true := by
  cases t using Tr.el with
  | nil => simp [Tr.size] at h
  | node c l p r => rfl

set_option maxRecDepth 100000 in
set_option maxHeartbeats 8000000 in
theorem sheetPlain_walk (a1 : Option Addr) (c1 : Nat) (l1 : List UInt8) (as' : Option Addr) (cs' : Nat) (qs : List Sq) (w : World) (h1 : Hid (Ab.Rd w (.slice a1 l1.length c1) l1)) (hc1 : l1.length ≤ c1) (h2 : Hid (Scs w as' qs)) (hz : l1.length + qsum qs ≤ 1048574) (hE : qeds qs ≤ 1073741824) (hqs : qs.length ≤ 1048576) :
    Calls Try.prog 5 #[.slice a1 l1.length c1, .slice as' qs.length cs'] w fun e w' => e = .returned (.bool true) ∧ Below w.heap.size w w' := by
  have HA := hid awake_any
  have hl1 : (l1.length : Int) ≤ 1048576 := by omega
  have hql : (qs.length : Int) ≤ 1048576 := by omega
  go_enter Try.func5, Try.ntmps5
  go_wp2_with fail
  refine (HA.out _).mono ?_
  rintro e w1 ⟨rfl, b1⟩
  have B1 := hid b1
  clear b1
  go_wp2_with fail
  refine (New_any a1 c1 l1 _ (by omega) (hid (h1.out.keep B1.out))).mono ?_
  rintro e w2 ⟨sb, bb, vo, a, t, rfl, hS, hN, b2⟩
  obtain ⟨o1, o2, o3, o4⟩ := hN.ok (by omega)
  have LZ0 := hid (show Lz [] w1 w2 sb l1 [] l1 0 from ⟨⟨bb, vo, _, t, a, hS, ⟨⟨o1, by omega⟩, fun p hp => by cases hp⟩, o2, o3⟩, b2⟩)
  have SC := hid (h2.out.keep B1.out)
  have T2 := hid ((h1.out.keep B1.out).keep b2)
  obtain ⟨K0, LZ, TK0⟩ : ∃ K, Hid (Lz K w1 w2 sb l1 [] l1 0) ∧ Hid (Tk K l1 a1) := by
    rcases Nat.eq_zero_or_pos l1.length with h0 | h0
    · exact ⟨[], LZ0, fun a _ h => by omega⟩
    · obtain ⟨ad, o, e, ho⟩ := rd_block (h1.out.keep B1.out) rfl h0
      have hlt := heap_lt ho
      exact ⟨[(ad.block, o)], LZ0.out.more (Below.refl _ _) ((b2.block _ hlt).trans ho) (.inr hlt), fun a ha _ => ⟨o, by rw [e] at ha; cases ha; simp⟩⟩
  clear hS hN b2 o1 o2 o3 o4 LZ0
  go_wp2_with fail
  go_loopg [6, 7, 30] qs.length (fun g x6 x7 x30 wr => ∃ (i : Nat) (K : List (Nat × Obj)) (A T : List UInt8) (e : Int) (ta : Option Addr) (tc : Nat) (wk : Int), i + g = qs.length ∧ x30 = .int .i64 (i : Int) ∧ x6 = .slice ta T.length tc ∧ x7 = .int .i64 wk ∧ 0 ≤ wk ∧ wk ≤ 4194304 ∧ T.length ≤ tc ∧ Ab.Rd wr (.slice ta T.length tc) T ∧ Tk K T ta ∧ Lz K w1 wr sb l1 A T e ∧ T.length + qsum (qs.drop i) ≤ 1048574 ∧ A.length + qsum (qs.drop i) ≤ 1048576 ∧ 0 ≤ e ∧ e + 2 * (qeds (qs.drop i) : Int) ≤ 4294967296)
  case atStart => exact ⟨0, K0, [], l1, 0, a1, c1, 0, by omega, rfl, rfl, rfl, Int.le_refl _, by omega, hc1, T2.out, TK0.out, LZ.out, hz, by simp; omega, Int.le_refl _, by simp; omega⟩
  case round =>
    obtain ⟨i, K, A, T, e, ta, tc, wk, hig, rfl, rfl, rfl, hwk0, hwk1, htc, hRT, hTK, hL, hT, hA, he0, he1⟩ := hrel
    have HL := hid hL
    have RT := hid hRT
    have TK := hid hTK
    clear hL hRT hTK LZ T2 TK0
    have hi0 : (0 : Int) ≤ (i : Int) := by omega
    cases gk with
    | zero =>
      have him : ¬ ((i : Int) < (qs.length : Int)) := by omega
      go_wp2
      go_ret
      exact ⟨rfl, bT B1.out HL.out.bel⟩
    | succ gk =>
      obtain ⟨wz, rfl⟩ : ∃ X, X = wr := ⟨_, rfl⟩
      have hlt : i < qs.length := by omega
      obtain ⟨q, hq⟩ : ∃ q, qs[i]? = some q := ⟨qs[i], List.getElem?_eq_getElem hlt⟩
      obtain ⟨g, o, ap, cp, ae, ce, rfl, z0, z1, z2, z3, z4, zr⟩ := SC.out.cells i q hq
      have hsm := SC.out.small q (List.mem_of_getElem? hq)
      have HSm := hid hsm
      have BZ := hid HL.out.bel
      have ZR := hid zr
      have HQS := hid (qsum_drop hq)
      have HQE := hid (qeds_drop hq)
      have x0 : wz.cell? ⟨g, o + i * 5, none⟩ = some (.int .i64 q.kind) := by rw [BZ.out.cell (lt_cell z0)]; exact z0
      have x1 : wz.cell? ⟨g, o + i * 5 + 1, none⟩ = some (.int .i64 q.a) := by rw [BZ.out.cell (lt_cell z1)]; exact z1
      have x2 : wz.cell? ⟨g, o + i * 5 + 2, none⟩ = some (.int .i64 q.b) := by rw [BZ.out.cell (lt_cell z2)]; exact z2
      have x3 : wz.cell? ⟨g, o + i * 5 + 3, none⟩ = some (.slice ap q.p.length cp) := by rw [BZ.out.cell (lt_cell z3)]; exact z3
      have x4 : wz.cell? ⟨g, o + i * 5 + 4, none⟩ = some (.slice ae q.es.length ce) := by rw [BZ.out.cell (lt_cell z4)]; exact z4
      have hpl : (q.p.length : Int) ≤ 1048576 := by have := HQS.out; unfold qby at this; omega
      have hel : (q.es.length : Int) ≤ 1048576 := by have := HSm.out.1; omega
      have hTl : (T.length : Int) ≤ 1048576 := by omega
      have hQ1 : T.length + qby q + qsum (qs.drop (i + 1)) ≤ 1048574 := by have := HQS.out; omega
      have hQ2 : A.length + qby q + qsum (qs.drop (i + 1)) ≤ 1048576 := by have := HQS.out; omega
      have hQ3 : e + 2 * (qed q : Int) + 2 * (qeds (qs.drop (i + 1)) : Int) ≤ 4294967296 := by have := HQE.out; omega
      clear z0 z1 z2 z3 z4 zr hsm hq hlt hT hA he1 HQS HQE
      have him : (i : Int) < (qs.length : Int) := by omega
      go_upto_region 11 with fail
      have y0 : (wz.alloc (.cells #[.int .i64 q.kind, .int .i64 q.a, .int .i64 q.b, .slice ap q.p.length cp, .slice ae q.es.length ce] 67)).cell? ⟨wz.heap.size, 0, none⟩ = some (.int .i64 q.kind) := by simp
      have y1 : (wz.alloc (.cells #[.int .i64 q.kind, .int .i64 q.a, .int .i64 q.b, .slice ap q.p.length cp, .slice ae q.es.length ce] 67)).cell? ⟨wz.heap.size, 1, none⟩ = some (.int .i64 q.a) := by simp
      have y2 : (wz.alloc (.cells #[.int .i64 q.kind, .int .i64 q.a, .int .i64 q.b, .slice ap q.p.length cp, .slice ae q.es.length ce] 67)).cell? ⟨wz.heap.size, 2, none⟩ = some (.int .i64 q.b) := by simp
      have y3 : (wz.alloc (.cells #[.int .i64 q.kind, .int .i64 q.a, .int .i64 q.b, .slice ap q.p.length cp, .slice ae q.es.length ce] 67)).cell? ⟨wz.heap.size, 3, none⟩ = some (.slice ap q.p.length cp) := by simp
      have y4 : (wz.alloc (.cells #[.int .i64 q.kind, .int .i64 q.a, .int .i64 q.b, .slice ap q.p.length cp, .slice ae q.es.length ce] 67)).cell? ⟨wz.heap.size, 4, none⟩ = some (.slice ae q.es.length ce) := by simp
      have hblk : (wz.alloc (.cells #[.int .i64 q.kind, .int .i64 q.a, .int .i64 q.b, .slice ap q.p.length cp, .slice ae q.es.length ce] 67)).heap[wz.heap.size]? = some (.cells #[.int .i64 q.kind, .int .i64 q.a, .int .i64 q.b, .slice ap q.p.length cp, .slice ae q.es.length ce] 67 (0, 0)) := by
        show (wz.heap.push _)[wz.heap.size]? = _
        simp
      have BW3 := hid (bAlloc (Below.refl wz.heap.size wz) (.cells #[.int .i64 q.kind, .int .i64 q.a, .int .i64 q.b, .slice ap q.p.length cp, .slice ae q.es.length ce] 67))
      have hqz : wz.heap.size < (wz.alloc (.cells #[.int .i64 q.kind, .int .i64 q.a, .int .i64 q.b, .slice ap q.p.length cp, .slice ae q.es.length ce] 67)).heap.size := by simp
      generalize wz.alloc (.cells #[.int .i64 q.kind, .int .i64 q.a, .int .i64 q.b, .slice ap q.p.length cp, .slice ae q.es.length ce] 67) = W3 at *
      have HBL := hid hblk
      obtain ⟨qb, hqb⟩ : ∃ qb, qb = wz.heap.size := ⟨_, rfl⟩
      rw [← hqb] at y0 y1 y2 y3 y4 HBL hqz ⊢
      clear x0 x1 x2 x3 x4 hblk hqb
      go_wp2_with fail
      go_loopg [7, 49] q.es.length (fun g2 x7 x49 wx => ∃ (k : Nat) (wk2 : Int), k + g2 = q.es.length ∧ x49 = .int .i64 (k : Int) ∧ x7 = .int .i64 wk2 ∧ 0 ≤ wk2 ∧ wk2 ≤ 8388608 + (k : Int) * 4194304 ∧ Below W3.heap.size W3 wx)
      case atStart => exact ⟨0, _, by omega, rfl, rfl, by omega, by omega, Below.refl _ _⟩
      case round =>
        obtain ⟨k, wk2, hkg, rfl, rfl, hw0, hw1, hBx⟩ := hrel
        have BX := hid hBx
        have hk0 : (0 : Int) ≤ (k : Int) := by omega
        cases gk with
        | succ g3 =>
          have hk1 : (k : Int) < (q.es.length : Int) := by omega
          obtain ⟨⟨at', old, new⟩, hd⟩ : ∃ d, q.es[k]? = some d := ⟨_, List.getElem?_eq_getElem (by omega)⟩
          obtain ⟨g4, o4, b1, d1, b2, d2, hae, q0, q1, q2, -, -⟩ := (((ZR.out.re.keep BZ.out).keep BW3.out).keep hBx).cells k _ hd
          have ho1 : (old.length : Int) ≤ 1048576 := by have := HSm.out.2 _ (List.mem_of_getElem? hd); dsimp only at this; omega
          have hn1 : (new.length : Int) ≤ 1048576 := by have := ns_le (List.mem_of_getElem? hd); dsimp only at this; unfold qby at hQ1; omega
          subst hae
          dsimp only at q0 q1 q2
          clear hBx hd
          go_wp2
          go_roundg g3
          case measure => omega
          case rel => exact ⟨k + 1, _, by omega, by go_num, rfl, by omega, by omega, bT BX.out (bAlloc (Below.refl _ _) _)⟩
        | zero =>
          have hk1 : ¬ ((k : Int) < (q.es.length : Int)) := by omega
          have z0 := cell_later hBx y0
          have z1 := cell_later hBx y1
          have z2 := cell_later hBx y2
          have z3 := cell_later hBx y3
          have z4 := cell_later hBx y4
          have hz5 : qb < wr.heap.size := by have := hBx.size; omega
          clear y0 y1 y2 y3 y4 hBx
          have B4 := hid (bTl BW3.out BX.out)
          have L4 := hid (HL.out.keep B4.out)
          have R4 := hid (RT.out.keep B4.out)
          have BZ4 := hid L4.out.bel
          clear HL RT HBL BW3 BX BZ
          by_cases hwk : 4194304 < wk2
          · go_wp2
            go_ret
            exact ⟨rfl, bT B1.out BZ4.out⟩
          · have hwk3 : wk2 ≤ 4194304 := by omega
            by_cases hk3 : q.kind < 0 ∨ 3 ≤ q.kind
            · have QA := hid (asked_any sb T ta tc q.kind q.a q.b (.slice ap q.p.length cp) (.slice ae q.es.length ce) wr (L4.out.aq (by omega)) R4.out (by omega) htc)
              rcases hk3 with hk4 | hk4
              · have hk5 : decide (3 ≤ q.kind) = false := by simp; omega
                clear hwk
                go_wp2_with (go_at_call 27; refine QA.out.mono ?_; rintro e9 w5 ⟨rfl, hb5⟩)
                have L5 := hid (L4.out.keep hb5)
                have R5 := hid (R4.out.keep hb5)
                clear hb5
                go_roundg gk
                case measure => omega
                case rel => exact ⟨i + 1, K, A, T, e, ta, tc, wk2, by omega, by go_num, rfl, rfl, hw0, hwk3, htc, R5.out, TK.out, L5.out, by omega, by omega, he0, by omega⟩
              · clear hwk
                go_wp2_with (go_at_call 27; refine QA.out.mono ?_; rintro e9 w5 ⟨rfl, hb5⟩)
                have L5 := hid (L4.out.keep hb5)
                have R5 := hid (R4.out.keep hb5)
                clear hb5
                go_roundg gk
                case measure => omega
                case rel => exact ⟨i + 1, K, A, T, e, ta, tc, wk2, by omega, by go_num, rfl, rfl, hw0, hwk3, htc, R5.out, TK.out, L5.out, by omega, by omega, he0, by omega⟩
            · have hk4 : 0 ≤ q.kind := by omega
              have hk5 : q.kind < 3 := by omega
              have PL := hid (plain_any T q ta ap ae tc cp ce wr R4 (hid (ZR.out.keep BZ4.out)) (by omega) (by have := HSm.out.1; omega) htc ⟨by omega, by omega⟩)
              clear hwk hk3
              go_wp2_with fail
              refine PL.out.mono ?_
              rintro e9 w5 ⟨tb, tbc, rfl, hcb, hRb, hb5, hNw⟩
              replace z0 := cell_later hb5 z0
              replace z1 := cell_later hb5 z1
              replace z2 := cell_later hb5 z2
              replace z3 := cell_later hb5 z3
              replace z4 := cell_later hb5 z4
              have hz6 : qb < w5.heap.size := by have := hb5.size; omega
              obtain ⟨K2, L5, TK5⟩ : ∃ K2, Hid (Lz K2 w1 w5 sb l1 A T e) ∧ Hid (Tk K2 ((stT T q).getD T) tb) := by
                rcases hNw with ⟨rfl, hUT⟩ | hNw
                · exact ⟨K, L4.out.keep hb5, by rw [hUT]; exact TK.out⟩
                · rcases Nat.eq_zero_or_pos ((stT T q).getD T).length with h0 | h0
                  · exact ⟨[], (L4.out.keep hb5).less (fun p hp => by cases hp), fun a _ h => by omega⟩
                  · obtain ⟨ad, ob, ha, ho⟩ := rd_block hRb rfl h0
                    exact ⟨(ad.block, ob) :: K, L4.out.more hb5 ho (.inl (hNw ad ha)), fun a ha2 _ => ⟨ob, by rw [ha] at ha2; cases ha2; simp⟩⟩
              have R5 := hid hRb
              have AC := hid (act_any w1 w5 sb l1 A T e q ap ae cp ce L5 ZR (by omega) (by omega) (by omega) (hid HSm.out.2) (hid ⟨he0, by omega⟩) HSm.out.1)
              have HLEN : Hid (((stT T q).getD T).length ≤ T.length + qby q) := by
                unfold Hid
                cases ho : stT T q with
                | none => simp
                | some U => have := stT_len ho; simpa using this
              clear hRb hb5 hNw PL L4 R4 TK
              go_wp2_with fail
              refine AC.out.mono ?_
              rintro e9 w6 ⟨rfl, hg⟩
              rw [erE_def]
              obtain ⟨A6, e6, hl6, k2, k3, k4⟩ : ∃ A6 e6, Lz K2 w1 w6 sb l1 A6 ((stT T q).getD T) e6 ∧ A6.length ≤ A.length + qby q ∧ 0 ≤ e6 ∧ e6 ≤ e + 2 * (qed q : Int) := by
                cases ho : stT T q with
                | none => rw [ho] at hg; exact ⟨A, e, hg, by omega, he0, by omega⟩
                | some U =>
                  rw [ho] at hg
                  obtain ⟨A', e2, g1, g2, g3, g4⟩ := hg
                  exact ⟨A', e2, g1, g2, by omega, g4⟩
              have hez : (erZ (stT T q) (if q.kind = 2 then 170 else 30) == 0) = (stT T q).isSome := by
                unfold erZ
                cases stT T q with
                | none => simp; split <;> decide
                | some U => rfl
              have L6 := hid hl6
              have R6 := hid (rd_held R5.out TK5.out L5.out hl6)
              have hUl : ((stT T q).getD T).length + qsum (qs.drop (i + 1)) ≤ 1048574 := by have := HLEN.out; omega
              generalize erZ (stT T q) (if q.kind = 2 then 170 else 30) = ez at *
              generalize (stT T q).isSome = ok at *
              generalize (stT T q).getD T = U at *
              clear hg hl6 AC L5 R5 HLEN z0 z1 z2 z3 z4
              obtain ⟨⟨bb6, vo6, va6, tr, ar, hS, ⟨⟨hw, hpc⟩, -⟩, hg, hUT⟩, hbel⟩ := L6.out
              have HS := hid hS
              have HW := hid hw
              have HG := hid hg
              have hbyt : tr.byt = (U.length : Int) := by rw [byt_list, ← txt_len hg, hUT]
              have hlin : tr.lin = (Ab.nl U : Int) := by rw [lin_list, ← txt_nl hg, hUT]
              have hnlU := Ab.nl_le U
              have hsz1 : tr.size ≤ 1048574 := by have h1 := len_le_txt hg; rw [hUT] at h1; rw [← tr.size_list]; omega
              have HF := hid (gds_fineP hg (by rw [hUT]; omega))
              have hpc2 : (tr.size : Int) ≤ 1 + 2 * e6 := by rw [← tr.size_list]; exact hpc
              have HSB := hid (show sB tr.list = (U.length : Int) by rw [← byt_list]; exact hbyt)
              have HBy := hid (fun W (hW : Below w6.heap.size w6 W) => Bytes_own sb bb6 vo6 va6 l1 A6 tr ar e6 w1.heap.size U.length W (hid (HS.out.keep hW)) HW HG (hid (by rw [hUT]; omega)) (hid (by rw [hUT])))
              rw [hUT] at HBy
              have HPc := hid (fun W (hW : Below w6.heap.size w6 W) => Pieces_any (some ⟨sb, 0, none⟩) ar e6 tr W (HS.out.keep hW).sht (HS.out.keep hW).tree (by omega))
              have HRw := hid (fun W (hW : Below w6.heap.size w6 W) => sRows_any (some ⟨sb, 0, none⟩) ar e6 tr W (HS.out.keep hW).sht (HS.out.keep hW).tree (hid (by omega)))
              have HLn := hid (fun W (hW : Below w6.heap.size w6 W) => sLen_any (some ⟨sb, 0, none⟩) ar e6 tr W (HS.out.keep hW).sht (HS.out.keep hW).tree)
              rw [hbyt] at HLn
              have HLi := hid (fun W (hW : Below w6.heap.size w6 W) => sLines_any (some ⟨sb, 0, none⟩) ar e6 tr W (HS.out.keep hW).sht (HS.out.keep hW).tree (by omega) (by omega))
              rw [hlin] at HLi
              have HEd := hid (fun W (hW : Below w6.heap.size w6 W) => edits_any (some ⟨sb, 0, none⟩) ar e6 W (HS.out.keep hW).sht)
              have HCK := hid (checkB_rows HW.out HF.out)
              have HLR := hid (rowsT_length tr)
              have HLP := hid tr.size_list
              have HGP := hid (show ∀ p ∈ tr.list, (1 : Int) ≤ p.l ∧ p.l ≤ 2147483647 from fun p hp => by have := (hg p hp).fit; exact ⟨this.1, this.2.1⟩)
              have HLOW := hid (plain_low HW.out hsz1)
              have HST := hid (sts_len U U.length (Nat.le_refl _))
              rw [List.take_length] at HST
              have BB6 := hid hbel
              clear hS hw hg hpc hUT hbel hbyt hlin HS
              go_wp2_with fail
              refine (HRw.out _ (Below.refl _ _)).mono ?_
              rintro e9 w7 ⟨ra, rc, rfl, hO7, hb7⟩
              have O7 := hid hO7
              have B7 := hid hb7
              clear hO7 hb7
              go_wp2_with fail
              refine (HPc.out _ B7.out).mono ?_
              rintro e9 w8 ⟨pa, pc, rfl, hO8, hb8⟩
              have O8 := hid hO8
              have O7' := hid (Ab.own_keep O7.out hb8)
              have B8 := hid (bTl B7.out hb8)
              clear hO8 hb8 O7 B7
              go_wp2_with fail
              refine (HBy.out _ B8.out).mono ?_
              rintro e9 w9 ⟨ya, yc, rfl, hO9, hb9⟩
              have S9 := hid (same_yes _ _ U w9 (Ab.own_rd hO9) ((R6.out.keep B8.out).keep hb9))
              have B9 := hid (bTl B8.out hb9)
              have C9 := hid hb9
              clear hO9 hb9
              go_wp2_with fail
              refine S9.out.mono ?_
              rintro e9 w10 ⟨rfl, hb10⟩
              have B10 := hid (bTl B9.out hb10)
              have C10 := hid (bTl C9.out hb10)
              clear hb10 S9 B9 C9
              go_wp2_with fail
              refine (HLn.out _ B10.out).mono ?_
              rintro e9 w11 ⟨rfl, hb11⟩
              have B11 := hid (bTl B10.out hb11)
              have C11 := hid (bTl C10.out hb11)
              clear hb11 B10 C10
              go_wp2_with fail
              refine (HLi.out _ B11.out).mono ?_
              rintro e9 w12 ⟨rfl, hb12⟩
              have B12 := hid (bTl B11.out hb12)
              have C12 := hid (bTl C11.out hb12)
              clear hb12 B11 C11
              go_wp2_with fail
              refine (starts_any tb tbc U _ (by omega) (hid (R6.out.keep B12.out))).mono ?_
              rintro e9 w13 ⟨vs, rfl, hO13, hb13⟩
              obtain ⟨sa, sc, hvs⟩ := own_shape hO13
              subst hvs
              rw [HST.out]
              have B13 := hid (bTl B12.out hb13)
              have C13 := hid (bTl C12.out hb13)
              clear hb13 B12 C12 hO13
              go_wp2_with fail
              refine (Check_any (rowsT tr) _ _ (by rw [HLR.out]; omega) ((own_rdr O7'.out).keep C13.out)).mono ?_
              rintro e9 w14 ⟨rfl, hb14⟩
              rw [if_pos HCK.out]
              have B14 := hid (bTl B13.out hb14)
              have C14 := hid (bTl C13.out hb14)
              clear hb14 B13 C13
              have hnu : ((Ab.nl U : Int) + 1 != ((Ab.nl U + 1 : Nat) : Int)) = false := by simp
              go_wp2_with fail
              refine (HEd.out _ B14.out).mono ?_
              rintro e9 w15 ⟨rfl, hb15⟩
              have B15 := hid (bTl B14.out hb15)
              have C15 := hid (bTl C14.out hb15)
              clear hb15 B14 C14
              have hgt : ¬ ((1 : Int) + 2 * e6 < (tr.size : Int)) := by omega
              have he6 : e6 ≤ 4294967296 := by omega
              have O15 := hid (Ab.own_keep O8.out C15.out)
              have P15 := hid (Ab.own_keep O7'.out C15.out)
              have R15 := hid (R6.out.keep B15.out)
              have L15 := hid (L6.out.keep B15.out)
              clear HRw HPc HBy HLn HLi HEd HCK HST O8 O7' R6 L6 B15 C15 HF HG HW
              go_wp2_with fail
              go_loopg [16, 141] tr.size (fun g5 x16 x141 wx => ∃ k : Nat, k + g5 = tr.size ∧ x141 = .int .i64 (k : Int) ∧ x16 = .int .i64 (sB (tr.list.take k)) ∧ Below w15.heap.size w15 wx)
              case atStart => exact ⟨0, by omega, rfl, rfl, Below.refl _ _⟩
              case round =>
                obtain ⟨k5, hk5g, rfl, rfl, hB16⟩ := hrel
                have B16 := hid hB16
                have hk50 : (0 : Int) ≤ (k5 : Int) := by omega
                cases gk with
                | succ g6 =>
                  have hk51 : (k5 : Int) < (tr.size : Int) := by omega
                  have hlt5 : k5 < tr.list.length := by have := HLP.out; omega
                  obtain ⟨p, hp⟩ : ∃ p, tr.list[k5]? = some p := ⟨_, List.getElem?_eq_getElem hlt5⟩
                  obtain ⟨gp, hpa, s0, s1, s2⟩ := own_span (Ab.own_keep O15.out hB16) hp HLP.out
                  subst hpa
                  have hgp := HGP.out p (List.mem_of_getElem? hp)
                  have HSS : Hid (sB (tr.list.take (k5 + 1)) = sB (tr.list.take k5) + p.l) := by
                    unfold Hid
                    rw [List.take_succ_eq_append_getElem hlt5]
                    obtain ⟨_, e⟩ := List.getElem?_eq_some_iff.1 hp
                    rw [e]
                    unfold sB
                    rw [List.map_append, List.sum_append]
                    simp only [List.map_cons, List.map_nil, List.sum_cons, List.sum_nil, Int.add_zero]
                  have hsb := sb_bounds HGP.out k5
                  have hsl : (k5 : Int) ≤ 1048576 := by omega
                  obtain ⟨pl1, pl2⟩ := hgp
                  generalize sB (tr.list.take k5) = sm at *
                  clear hp hB16
                  have hpl1 : ¬ (p.l < 1) := by omega
                  go_wp2
                  go_roundg g6
                  case measure => omega
                  case rel => exact ⟨k5 + 1, by omega, by go_num, by rw [HSS.out], bT B16.out (bAlloc (Below.refl _ _) _)⟩
                | zero =>
                  have hk51 : ¬ ((k5 : Int) < (tr.size : Int)) := by omega
                  have hall : sB (tr.list.take k5) = (U.length : Int) := by rw [List.take_of_length_le (by have := HLP.out; omega)]; exact HSB.out
                  rw [hall]
                  have L16 := hid (L15.out.keep hB16)
                  have R16 := hid (R15.out.keep hB16)
                  have P16 := hid (Ab.own_keep P15.out hB16)
                  clear hB16 hall
                  rcases Nat.eq_zero_or_pos tr.size with h0 | h0
                  · have h00 : ¬ ((0 : Int) < (tr.size : Int)) := by omega
                    go_wp2
                    go_roundg gk
                    case measure => omega
                    case rel => exact ⟨i + 1, K2, A6, U, e6, tb, tbc, wk2, by omega, by go_num, rfl, rfl, hw0, hwk3, hcb, R16.out, TK5.out, L16.out, hUl, by omega, k3, by omega⟩
                  · have h00 : (0 : Int) < (tr.size : Int) := by omega
                    have HH := hid (hgt_any ra tr.size rc w6.heap.size (rowsT tr) wr (by omega) HLR P16 tr 0 [] (has_pos h0) (by simp))
                    obtain ⟨p1, p2, p3⟩ := HLOW.out
                    have p4 : (0 : Int) ≤ ((tr.ht : Nat) : Int) := by omega
                    have p5 : ((tr.ht : Nat) : Int) ≤ 40 := by omega
                    have p7 : decide (((tr.ht : Nat) : Int) < 0) = false := by simp
                    have p8 : IntKind.i64.wrap ((2 : Int) ^ tr.ht) = (2 : Int) ^ tr.ht := i64_in2 (by have := Int.pow_pos (n := 2) (m := tr.ht) (by omega); omega) (by omega)
                    have p9 : IntKind.i64.wrap ((tr.size : Int) + 1) = (tr.size : Int) + 1 := i64_in2 (by omega) (by omega)
                    have p10 : IntKind.i64.wrap (((tr.size : Int) + 1) * ((tr.size : Int) + 1)) = ((tr.size : Int) + 1) * ((tr.size : Int) + 1) := i64_in2 (by have := Int.pow_pos (n := 2) (m := tr.ht) (by omega); omega) (by omega)
                    have p6 : decide (((tr.ht : Nat) : Int) > 40) = false := by simp; omega
                    have p11 : decide ((2 : Int) ^ tr.ht > ((tr.size : Int) + 1) * ((tr.size : Int) + 1)) = false := by simp; omega
                    have F1 := hid (show A6.length + qsum (qs.drop (i + 1)) ≤ 1048576 by omega)
                    have F2 := hid (show e6 + 2 * (qeds (qs.drop (i + 1)) : Int) ≤ 4294967296 by omega)
                    have F3 := hid (show i + 1 + gk = qs.length by omega)
                    clear p1 p2 p3
                    go_wp2_with fail
                    refine HH.out.mono ?_
                    rintro e9 w17 ⟨rfl, hw17⟩
                    have hq17 := hw17.symm
                    subst hq17
                    clear hw17 HH
                    go_upto_region 41 with fail
                    clear hk5g hk50 hk51 hig hkg hk1 hk0 hi0 hQ1 hQ2 hQ3 hw1 hpc2 hsz1 hnlU hgt
                    go_wp2
                    clear p4 p5 p6 p7 p8 p9 p10 p11
                    go_roundg gk
                    case measure => omega
                    case rel => exact ⟨i + 1, K2, A6, U, e6, tb, tbc, wk2, F3.out, by go_num, rfl, rfl, hw0, hwk3, hcb, R16.out, TK5.out, L16.out, hUl, F1.out, k3, F2.out⟩
end Go.Proofs.Ytpifjghhlcjedaa

