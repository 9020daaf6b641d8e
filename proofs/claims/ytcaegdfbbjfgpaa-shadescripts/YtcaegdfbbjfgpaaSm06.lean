/- The contracts of the reference's Join, Split, Insert, Delete, Set. -/
import Derived.Test.YtcaegdfbbjfgpaaSm05
import Derived.Test.YtcaegdfbbjfgpaaAm19
namespace Go.Proofs.Ytcaegdfbbjfgpaa
open Go.RowKit

/-- rows that lie below the wood -/
def Rdw (W : World) (base : Nat) (v : Value) (L : List Rw) : Prop := ∃ ao n c, v = .slice ao n c ∧ n = L.length ∧ (L = [] ∨ ∃ b off, ao = some ⟨b, off, none⟩ ∧ RowR W b off L ∧ b < base)
theorem Rdr.low {w W : World} {v : Value} {L : List Rw} (h : Rdr w v L) (hb : Below w.heap.size w W) {base : Nat} (hz : w.heap.size ≤ base) : Rdw W base v L := by
  obtain ⟨ao, n, c, e, hn, -, h⟩ := h.keep hb
  refine ⟨ao, n, c, e, hn, ?_⟩
  rename Rdr w v L => h0
  obtain ⟨ao', n', c', e', hn', -, h'⟩ := h0
  rw [e] at e'
  cases e'
  rcases h with h | ⟨b, off, e1, h⟩
  · exact .inl h
  · rcases h' with h' | ⟨b', off', e2, h'⟩
    · exact .inl h'
    · rw [e1] at e2
      cases e2
      rcases hp : L[0]? with _ | q
      · exact .inl (List.eq_nil_of_length_eq_zero (by have := List.getElem?_eq_none_iff.1 hp; omega))
      · exact .inr ⟨b, off, e1, h, Nat.lt_of_lt_of_le (cell_lt (h' 0 q hp).1) hz⟩
theorem Rdw.grw {W W' : World} {base B : Nat} {v v' ls : Value} {N : List Nd} {L : List Rw} (h : Rdw W base ls L) (hg : Grw W W' B v v') (hw : Wd W base B v N) (hz : base ≤ W.heap.size) : Rdw W' base ls L := by
  obtain ⟨ao, n, c, e, hn, h⟩ := h
  refine ⟨ao, n, c, e, hn, ?_⟩
  rcases h with h | ⟨b, off, e1, h, hb⟩
  · exact .inl h
  · exact .inr ⟨b, off, e1, h.grw hg hw hb hz, hb⟩
theorem wtree_rdw (t : Tr) (ls : Value) (base B : Nat) (v : Value) (N : List Nd) (w : World) (hf : t.fits) (hz : t.size ≤ 5700) (hr : Rdw w base ls (rowsT t)) (hW : Wd w base B v N) (hB : base ≤ w.heap.size) (hN : N.length + t.size ≤ 2097152) :
    Calls Try.prog 50 #[.pointer (some ⟨B, 0, none⟩), ls] w fun e w' => Mades w base B v N t t.size e w' := by
  obtain ⟨ao, n, c, rfl, hn, h⟩ := hr
  obtain rfl : n = t.size := by rw [hn, rowsT_length]
  refine wtree_any base B ao c t w v N hf (by omega) ?_ hW hB hN
  rcases h with h | h
  · exact .inl (by rw [← rowsT_length, h]; rfl)
  · exact .inr h
/-- the rows, at the end -/
theorem wrows_end (t : Tr) (i : Int) (base0 B base : Nat) (v : Value) (N : List Nd) (w : World) (hN : N.length ≤ 2097152) (hi : Is N t i) (hW : Wd w base0 B v N) (hB : base ≤ w.heap.size) (hz : t.size ≤ 2097152) :
    Calls Try.prog 47 #[.pointer (some ⟨B, 0, none⟩), .int .i64 i, .slice none 0 0] w fun e w' => ∃ l', e = .returned l' ∧ w'.ownsRow base 72 10 l' t.size (rcells (rowsT t)) ∧ Below w.heap.size w w' := by
  refine (wrows_any base0 B v N base hN t i (.slice none 0 0) 0 [] w hi hW ⟨by simp [Value.ownBlock], fun k _ => by simp [Value.ownBlock]⟩ (World.ownsRow_nil _ _ _ _) hB (by omega)).mono ?_
  rintro e w' ⟨l', rfl, ho, hg⟩
  exact ⟨l', rfl, by simpa using ho, hg.under (Below.refl _ _) (Nat.le_refl _) (fun k hk => by simp [Value.ownBlock] at hk)⟩
/-- what Join makes -/
def jnT (l : Tr) (p : Pc) (r : Tr) : Tr := if fitB p.l p.n = true then Tr.joinT l p r else Tr.gluT l r
theorem wjoin_both (l r : Tr) (li ri ps po pl pn : Int) (base B : Nat) (v : Value) (N : List Nd) (w : World) (hz : N.length + 152 * (l.ht + 2) ≤ 2097152) (hs : l.size + r.size ≤ 5700) (gl : Gd l) (gr : Gd r) (hW : Wd w base B v N) (h1 : Is N l li) (h2 : Is N r ri) (hB : base ≤ w.heap.size) :
    Calls Try.prog 71 #[.pointer (some ⟨B, 0, none⟩), .int .i64 li, .agg #[.int .i64 ps, .int .i64 po, .int .i64 pl, .int .i64 pn], .int .i64 ri] w fun e w' => Mades w base B v N (jnT l ⟨ps, po, pl, pn⟩ r) (152 * (l.ht + 1)) e w' := by
  unfold jnT
  cases hf : fitB pl pn with
  | false => simp only [Bool.false_eq_true, if_false]; exact wjoin_un l r li ri ps po pl pn base B v N w hz hs hf gl gr hW h1 h2 hB
  | true =>
    simp only [if_true]
    have x1 := gl.ht
    have x2 := gr.ht
    refine (wjoin_any l r li ri ps po pl pn base B v N w (by omega) (by omega) ((fitB_iff ps po pl pn).1 hf) ⟨gl.ft, gl.wh⟩ ⟨gr.ft, gr.wh⟩ hW h1 h2 hB).mono ?_
    rintro e w' ⟨i, v', M, rfl, a1, a2, a3, a4⟩
    exact ⟨i, v', M, rfl, a1, a2, a3, by omega⟩
theorem jnT_list (l r : Tr) (p : Pc) : (jnT l p r).list = if fitB p.l p.n = true then l.list ++ p :: r.list else l.list ++ r.list := by
  unfold jnT
  split
  · exact Tr.joinT_list l p r
  · exact Tr.gluT_list l r
theorem jnT_size (l r : Tr) (p : Pc) : (jnT l p r).size ≤ l.size + r.size + 1 := by
  rw [← Tr.size_list, jnT_list]
  split
  · rw [List.length_append, List.length_cons, Tr.size_list, Tr.size_list]; omega
  · rw [List.length_append, Tr.size_list, Tr.size_list]; omega

/-- a list of rows that the call gives -/
def Rw1 (w : World) (t : Tr) (l : Value) (w' : World) : Prop := w'.ownsRow w.heap.size 72 10 l t.size (rcells (rowsT t))

set_option maxRecDepth 100000 in
set_option maxHeartbeats 4000000 in
theorem Joinr_any (l r : Tr) (lv rv : Value) (ps po pl pn : Int) (w : World) (gl : Hid (Gd l)) (gr : Hid (Gd r)) (hs : l.size + r.size ≤ 5700) (hl : Hid (Rdr w lv (rowsT l))) (hr : Hid (Rdr w rv (rowsT r))) :
    Calls Try.prog 39 #[lv, .agg #[.int .i64 ps, .int .i64 po, .int .i64 pl, .int .i64 pn], rv] w fun e w' => ∃ l', e = .returned l' ∧ Rw1 w (jnT l ⟨ps, po, pl, pn⟩ r) l' w' ∧ Below w.heap.size w w' := by
  go_enter Try.func39, Try.ntmps39
  go_upto_region 1 with fail
  have HZ := Hid.mk' (Blk.new w 32 #[.int .i64 ps, .int .i64 po, .int .i64 pl, .int .i64 pn])
  have B1 := Hid.mk' (bAlloc (Below.refl w.heap.size w) (.cells #[.int .i64 ps, .int .i64 po, .int .i64 pl, .int .i64 pn] 32))
  generalize hW1 : w.alloc (.cells #[.int .i64 ps, .int .i64 po, .int .i64 pl, .int .i64 pn] 32) = W1 at *
  clear hW1
  obtain ⟨qz, hqz⟩ : ∃ q, q = w.heap.size := ⟨_, rfl⟩
  rw [← hqz] at HZ ⊢
  clear hqz
  have hqz : qz < W1.heap.size := HZ.out.lt
  go_upto_region 2 with fail
  have W2 := Hid.mk' (wd_new W1 W1.heap.size (Nat.le_refl _))
  have B2 := Hid.mk' (bAlloc (Below.refl W1.heap.size W1) (.cells #[.slice none 0 0] 88))
  generalize hV2 : W1.alloc (.cells #[.slice none 0 0] 88) = V2 at *
  clear hV2
  obtain ⟨bs, hbs⟩ : ∃ q, q = W1.heap.size := ⟨_, rfl⟩
  rw [← hbs] at W2 B2 hqz ⊢
  have HBS := Hid.mk' hbs
  have z2 := Hid.mk' (show bs ≤ V2.heap.size by rw [hbs]; exact B2.out.size)
  have L2 := Hid.mk' (hl.out.low (bT B1.out (by rw [← hbs]; exact B2.out)) (show w.heap.size ≤ bs by rw [hbs]; exact B1.out.size))
  have R2 := Hid.mk' (hr.out.low (bT B1.out (by rw [← hbs]; exact B2.out)) (show w.heap.size ≤ bs by rw [hbs]; exact B1.out.size))
  clear hbs
  have D1 := Hid.mk' (wtree_rdw l lv bs bs _ [] V2 gl.out.ft (by omega) L2.out W2.out z2.out (by simp; omega))
  go_wp2_with fail
  refine D1.out.mono ?_
  rintro e w3 ⟨i3, v3, M3, rfl, q1, q2, q3, q4⟩
  have W3 := Hid.mk' q1
  have J3 := Hid.mk' q2
  have B3 := Hid.mk' (q3.under W2.out B2.out z2.out)
  have z3 := Hid.mk' (show bs ≤ w3.heap.size by have := z2.out; have := q3.size; omega)
  have R3 := Hid.mk' (R2.out.grw q3 W2.out z2.out)
  have C3 := Hid.mk' q4
  clear q1 q2 q3 q4 D1
  have D2 := Hid.mk' (wtree_rdw r rv bs bs v3 ([] ++ M3) w3 gr.out.ft (by omega) R3.out W3.out z3.out (by have := C3.out; simp; omega))
  go_wp2_with fail
  refine D2.out.mono ?_
  rintro e w4 ⟨i4, v4, M4, rfl, q1, q2, q3, q4⟩
  have W4 := Hid.mk' q1
  have J4 := Hid.mk' q2
  have B4 := Hid.mk' (q3.under W3.out B3.out z3.out)
  have z4 := Hid.mk' (show bs ≤ w4.heap.size by have := z3.out; have := q3.size; omega)
  have C4 := Hid.mk' q4
  clear q1 q2 q3 q4 D2
  have Z4 : Hid (Blk w4 qz 32 #[.int .i64 ps, .int .i64 po, .int .i64 pl, .int .i64 pn]) := by have h := HZ.out; unfold Hid; unfold Blk at *; rw [B4.out.block qz hqz]; exact h
  obtain ⟨c0, c1, c2, c3⟩ := Z4.out.four
  have D3 := Hid.mk' (wjoin_both l r i3 i4 ps po pl pn bs bs v4 ([] ++ M3 ++ M4) w4 (by have x1 := C3.out; have x2 := C4.out; have x3 := gl.out.ht; simp; omega) hs gl.out gr.out W4.out (J3.out.more M4) J4.out z4.out)
  go_wp2_with fail
  refine D3.out.mono ?_
  rintro e w5 ⟨i5, v5, M5, rfl, q1, q2, q3, q4⟩
  have W5 := Hid.mk' q1
  have J5 := Hid.mk' q2
  have B5 := Hid.mk' (q3.under W4.out B4.out z4.out)
  have z5 := Hid.mk' (show bs ≤ w5.heap.size by have := z4.out; have := q3.size; omega)
  have C5 := Hid.mk' q4
  clear q1 q2 q3 q4 D3
  have B6 := Hid.mk' (show Below w.heap.size w w5 from B1.out.trans (B5.out.mono (by rw [HBS.out]; exact B1.out.size)))
  have D4 := Hid.mk' (wrows_end (jnT l ⟨ps, po, pl, pn⟩ r) i5 bs bs w.heap.size v5 _ w5 (by have x1 := C3.out; have x2 := C4.out; have x3 := gl.out.ht; have x4 := C5.out; simp; omega) J5.out W5.out B6.out.size (by have := jnT_size l r ⟨ps, po, pl, pn⟩; omega))
  go_wp2_with fail
  refine D4.out.mono ?_
  rintro e w6 ⟨l6, rfl, hown, hb6⟩
  have O6 := Hid.mk' hown
  have B7 := Hid.mk' (bT B6.out hb6)
  clear hown hb6 D4
  go_wp2
  go_ret
  exact ⟨l6, rfl, O6.out, B7.out⟩
end Go.Proofs.Ytcaegdfbbjfgpaa
