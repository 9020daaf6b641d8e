/- The contracts of the reference's Height and Pieces. -/
import Derived.Test.YtmhpeppbhjpkiaaGreatPm29
import Derived.Test.YtmhpeppbhjpkiaaGreatPm28
import Derived.Test.YtmhpeppbhjpkiaaGreatPm30
namespace Go.Proofs.YtmhpeppbhjpkiaaGreat
open Go.RowKit

/-- a row apart from the wood stays -/
theorem own_grw {W W' : World} {B base e size n : Nat} {v v' ls : Value} {xs : List Value} (h : W.ownsRow base e size ls n xs) (hg : Grw W W' B v v') (h1 : ls.ownBlock ≠ some B) (h2 : ∀ k, ls.ownBlock = some k → v.ownBlock ≠ some k) : W'.ownsRow base e size ls n xs := by
  refine ⟨h.1, ?_⟩
  rcases h.2 with hn | ⟨g, cap, cur, rfl, hb, hgg, rest⟩
  · exact .inl hn
  · refine .inr ⟨g, cap, cur, rfl, hb, ?_, rest⟩
    rw [hg.block g (Array.getElem?_eq_some_iff.1 hgg).1 (fun e => h1 (by rw [e]; rfl)) (fun e => h2 g rfl e.symm)]
    exact hgg
theorem Grl.under {W W' w0 : World} {base : Nat} {l l' : Value} (h : Grl W W' l l') (hb : Below base w0 W) (hz : base ≤ W.heap.size) (hl : ∀ k, l.ownBlock = some k → base ≤ k) : Below base w0 W' :=
  ⟨h.gr.os.trans hb.os, h.gr.tape.trans hb.tape, h.gr.output.trans hb.output, Nat.le_trans hb.size h.gr.size, fun k hk => (h.gr.block k (by omega) (fun e => by have := hl k e.symm; omega)).trans (hb.block k hk)⟩
theorem grown_below {W W' : World} (h : W.grownBy W' none) : Below W.heap.size W W' := ⟨h.os, h.tape, h.output, h.size, fun k hk => h.block k hk (by simp)⟩
/-- a wood, new -/
theorem wd_new (w : World) (base : Nat) (hB : base ≤ w.heap.size) : Wd (w.alloc (.cells #[.slice none 0 0] 102)) base w.heap.size (.slice none 0 0) [] := ⟨Blk.new w 102 _, World.ownsRow_nil _ _ _ _, hB⟩

set_option maxHeartbeats 2000000 in
theorem Piecesr_any (t : Tr) (v : Value) (w : World) (hz : Hid (t.size ≤ 524287)) (hf : Hid t.fits) (hr : Hid (Rdr w v (rowsT t))) :
    Calls Tryz.prog 57 #[v] w fun e w' => ∃ l', e = .returned l' ∧ w'.ownsRow w.heap.size 59 4 l' t.size (cells t.list) ∧ Below w.heap.size w w' := by
  obtain ⟨ao, n, c, rfl, hn, hc, hrow⟩ := hr.out
  obtain rfl : n = t.size := by rw [hn, rowsT_length]
  obtain ⟨i0, hi, hz0, hz1, hz2⟩ := info_parts info32
  have HR : Hid (t.size = 0 ∨ ∃ b off, ao = some ⟨b, off, none⟩ ∧ RowR w b off (rowsT t) ∧ b < w.heap.size) := by
    rcases hrow with e | ⟨b, off, e, hrow⟩
    · exact .inl (by rw [← rowsT_length, e]; rfl)
    · rcases Nat.eq_zero_or_pos t.size with h0 | h0
      · exact .inl h0
      · refine .inr ⟨b, off, e, hrow, ?_⟩
        rcases hp : (rowsT t)[0]? with _ | q
        · have := List.getElem?_eq_none_iff.1 hp; rw [rowsT_length] at this; omega
        · exact cell_lt (hrow 0 q hp).1
  clear hrow hn hr
  go_enter Tryz.func57, Tryz.ntmps57
  go_wp2_with (at_make; refine wpList_make_own _ rfl _ _ 108 rfl w.heap.size 59 i0 (.agg #[.int .i64 0, .int .i64 0, .int .i64 0, .int .i64 0]) 4 Tryz.underlying108 hi hz0 hz1 _ _ _ t.size rfl rfl rfl ?bytes ?maxl ?base ?_)
  case bytes => rw [hz2]; have := hz.out; omega
  case maxl => have := hz.out; unfold maxLen; omega
  case base => simp
  intro w2 hown hgrow
  have b2 := Hid.mk' (bA (grown_below hgrow))
  have W2 := Hid.mk' ((wd_new w w.heap.size (Nat.le_refl _)).keep (grown_below hgrow))
  have O2 := Hid.mk' hown
  have s2 := Hid.mk' b2.out.size
  have s3 := Hid.mk' ((hown.lt _ rfl).2)
  clear hown hgrow
  have D1 := Hid.mk' (wtree_any w.heap.size w.heap.size ao c t w2 (.slice none 0 0) [] hf.out (by have := hz.out; omega) (by
    rcases HR.out with h | ⟨b, off, e, h, hl⟩
    · exact .inl h
    · exact .inr ⟨b, off, e, h.keep b2.out, hl⟩) W2.out s2.out (by have := hz.out; simp; omega))
  go_wp2_with fail
  refine D1.out.mono ?_
  rintro e w4 ⟨i4, v4, M4, rfl, q1, q2, q3, q4⟩
  have W4 := Hid.mk' q1
  have J4 := Hid.mk' q2
  have b4 := Hid.mk' (q3.under W2.out b2.out s2.out)
  have s4 := Hid.mk' (Nat.le_trans s2.out q3.size)
  have O4 := Hid.mk' (own_grw O2.out q3 (by simp [Value.ownBlock]) (fun k hk => by simp [Value.ownBlock]))
  have F4 := Hid.mk' (show Fr2 w4 (.slice (some ⟨w.heap.size + 1, 0, none⟩) 0 t.size) w.heap.size v4 from ⟨by simp [Value.ownBlock], fun k hk e => q3.own_ne (k := k) (by have := s3.out; simp [Value.ownBlock] at e; omega) (by simp [Value.ownBlock]) hk⟩)
  clear q1 q2 q3 q4 D1
  have D2 := Hid.mk' (wpieces_any w.heap.size w.heap.size v4 ([] ++ M4) w.heap.size t i4 _ 0 [] w4 J4.out W4.out F4.out O4.out s4.out (by have := hz.out; omega))
  go_wp2_with fail
  refine D2.out.mono ?_
  rintro e w5 ⟨l5, rfl, hown5, hg5⟩
  have O5 := Hid.mk' hown5
  have b5 := Hid.mk' (hg5.under b4.out s4.out (fun k hk => (O4.out.lt k hk).1))
  clear hown5 hg5 D2
  go_wp2
  go_ret
  exact ⟨l5, rfl, by simpa using O5.out, b5.out⟩
end Go.Proofs.YtmhpeppbhjpkiaaGreat

/- The contract of the reference's Build. -/
namespace Go.Proofs.YtmhpeppbhjpkiaaGreat
open Go.RowKit

end Go.Proofs.YtmhpeppbhjpkiaaGreat

/- The contracts of the reference's Join, Split, Insert, Delete, Set. -/
namespace Go.Proofs.YtmhpeppbhjpkiaaGreat
open Go.RowKit

/-- rows that lie below the wood -/
def Rdw (W : World) (base : Nat) (v : Value) (L : List Rw) : Prop := ∃ ao n c, v = .slice ao n c ∧ n = L.length ∧ (L = [] ∨ ∃ b off, ao = some ⟨b, off, none⟩ ∧ RowR W b off L ∧ b < base)
theorem Rdr.low {w W : World} {v : Value} {L : List Rw} (h : Rdr w v L) (hb : Below w.heap.size w W) {base : Nat} (hz : w.heap.size ≤ base) : Rdw W base v L := by
  obtain ⟨ao, n, c, e, hn, -, h⟩ := h.keep hb
  refine ⟨ao, n, c, e, hn, ?_⟩
  rename Rdr w v L => h0
  obtain ⟨ao', n', c', e', hn', -, h'⟩ := h0
  rw [e] at e'
  cases e'
  rcases h with h | ⟨b, off, e1, h⟩
  · exact .inl h
  · rcases h' with h' | ⟨b', off', e2, h'⟩
    · exact .inl h'
    · rw [e1] at e2
      cases e2
      rcases hp : L[0]? with _ | q
      · exact .inl (List.eq_nil_of_length_eq_zero (by have := List.getElem?_eq_none_iff.1 hp; omega))
      · exact .inr ⟨b, off, e1, h, Nat.lt_of_lt_of_le (cell_lt (h' 0 q hp).1) hz⟩
theorem Rdw.grw {W W' : World} {base B : Nat} {v v' ls : Value} {N : List Nd} {L : List Rw} (h : Rdw W base ls L) (hg : Grw W W' B v v') (hw : Wd W base B v N) (hz : base ≤ W.heap.size) : Rdw W' base ls L := by
  obtain ⟨ao, n, c, e, hn, h⟩ := h
  refine ⟨ao, n, c, e, hn, ?_⟩
  rcases h with h | ⟨b, off, e1, h, hb⟩
  · exact .inl h
  · exact .inr ⟨b, off, e1, h.grw hg hw hb hz, hb⟩
theorem wtree_rdw (t : Tr) (ls : Value) (base B : Nat) (v : Value) (N : List Nd) (w : World) (hf : t.fits) (hz : t.size ≤ 524287) (hr : Rdw w base ls (rowsT t)) (hW : Wd w base B v N) (hB : base ≤ w.heap.size) (hN : N.length + t.size ≤ 2097152) :
    Calls Tryz.prog 53 #[.pointer (some ⟨B, 0, none⟩), ls] w fun e w' => Mades w base B v N t t.size e w' := by
  obtain ⟨ao, n, c, rfl, hn, h⟩ := hr
  obtain rfl : n = t.size := by rw [hn, rowsT_length]
  refine wtree_any base B ao c t w v N hf (by omega) ?_ hW hB hN
  rcases h with h | h
  · exact .inl (by rw [← rowsT_length, h]; rfl)
  · exact .inr h
/-- the rows, at the end -/
theorem wrows_end (t : Tr) (i : Int) (base0 B base : Nat) (v : Value) (N : List Nd) (w : World) (hN : N.length ≤ 2097152) (hi : Is N t i) (hW : Wd w base0 B v N) (hB : base ≤ w.heap.size) (hz : t.size ≤ 2097152) :
    Calls Tryz.prog 54 #[.pointer (some ⟨B, 0, none⟩), .int .i64 i, .slice none 0 0] w fun e w' => ∃ l', e = .returned l' ∧ w'.ownsRow base 128 10 l' t.size (rcells (rowsT t)) ∧ Below w.heap.size w w' := by
  refine (wrows_any base0 B v N base hN t i (.slice none 0 0) 0 [] w hi hW ⟨by simp [Value.ownBlock], fun k _ => by simp [Value.ownBlock]⟩ (World.ownsRow_nil _ _ _ _) hB (by omega)).mono ?_
  rintro e w' ⟨l', rfl, ho, hg⟩
  exact ⟨l', rfl, by simpa using ho, hg.under (Below.refl _ _) (Nat.le_refl _) (fun k hk => by simp [Value.ownBlock] at hk)⟩
/-- what Join makes -/
def jnT (l : Tr) (p : Pc) (r : Tr) : Tr := if fitB p.l p.n = true then Tr.joinT l p r else Tr.gluT l r
theorem wjoin_both (l r : Tr) (li ri ps po pl pn : Int) (base B : Nat) (v : Value) (N : List Nd) (w : World) (hz : N.length + 240 * (l.ht + 2) ≤ 2097152) (hs : l.size + r.size ≤ 524287) (gl : Gdw l) (gr : Gdw r) (hW : Wd w base B v N) (h1 : Is N l li) (h2 : Is N r ri) (hB : base ≤ w.heap.size) :
    Calls Tryz.prog 55 #[.pointer (some ⟨B, 0, none⟩), .int .i64 li, .agg #[.int .i64 ps, .int .i64 po, .int .i64 pl, .int .i64 pn], .int .i64 ri] w fun e w' => Mades w base B v N (jnT l ⟨ps, po, pl, pn⟩ r) (240 * (l.ht + 1)) e w' := by
  unfold jnT
  cases hf : fitB pl pn with
  | false => simp only [Bool.false_eq_true, if_false]; exact wjoin_un l r li ri ps po pl pn base B v N w hz hs hf gl gr hW h1 h2 hB
  | true =>
    simp only [if_true]
    have x1 := gl.ht
    have x2 := gr.ht
    refine (wjoin_any l r li ri ps po pl pn base B v N w (by omega) (by omega) ((fitB_iff ps po pl pn).1 hf) ⟨gl.ft, gl.wh⟩ ⟨gr.ft, gr.wh⟩ hW h1 h2 hB).mono ?_
    rintro e w' ⟨i, v', M, rfl, a1, a2, a3, a4⟩
    exact ⟨i, v', M, rfl, a1, a2, a3, by omega⟩
theorem jnT_list (l r : Tr) (p : Pc) : (jnT l p r).list = if fitB p.l p.n = true then l.list ++ p :: r.list else l.list ++ r.list := by
  unfold jnT
  split
  · exact Tr.joinT_list l p r
  · exact Tr.gluT_list l r
theorem jnT_size (l r : Tr) (p : Pc) : (jnT l p r).size ≤ l.size + r.size + 1 := by
  rw [← Tr.size_list, jnT_list]
  split
  · rw [List.length_append, List.length_cons, Tr.size_list, Tr.size_list]; omega
  · rw [List.length_append, Tr.size_list, Tr.size_list]; omega

/-- a list of rows that the call gives -/
def Rw1 (w : World) (t : Tr) (l : Value) (w' : World) : Prop := w'.ownsRow w.heap.size 128 10 l t.size (rcells (rowsT t))

set_option maxRecDepth 100000 in
set_option maxHeartbeats 4000000 in
theorem Joinr_any (l r : Tr) (lv rv : Value) (ps po pl pn : Int) (w : World) (gl : Hid (Gdw l)) (gr : Hid (Gdw r)) (hs : l.size + r.size ≤ 524287) (hl : Hid (Rdr w lv (rowsT l))) (hr : Hid (Rdr w rv (rowsT r))) :
    Calls Tryz.prog 21 #[lv, .agg #[.int .i64 ps, .int .i64 po, .int .i64 pl, .int .i64 pn], rv] w fun e w' => ∃ l', e = .returned l' ∧ Rw1 w (jnT l ⟨ps, po, pl, pn⟩ r) l' w' ∧ Below w.heap.size w w' := by
  go_enter Tryz.func21, Tryz.ntmps21
  go_upto_region 1 with fail
  have HZ := Hid.mk' (Blk.new w 59 #[.int .i64 ps, .int .i64 po, .int .i64 pl, .int .i64 pn])
  have B1 := Hid.mk' (bAlloc (Below.refl w.heap.size w) (.cells #[.int .i64 ps, .int .i64 po, .int .i64 pl, .int .i64 pn] 59))
  generalize hW1 : w.alloc (.cells #[.int .i64 ps, .int .i64 po, .int .i64 pl, .int .i64 pn] 59) = W1 at *
  clear hW1
  obtain ⟨qz, hqz⟩ : ∃ q, q = w.heap.size := ⟨_, rfl⟩
  rw [← hqz] at HZ ⊢
  clear hqz
  have hqz : qz < W1.heap.size := HZ.out.lt
  go_upto_region 2 with fail
  have W2 := Hid.mk' (wd_new W1 W1.heap.size (Nat.le_refl _))
  have B2 := Hid.mk' (bAlloc (Below.refl W1.heap.size W1) (.cells #[.slice none 0 0] 102))
  generalize hV2 : W1.alloc (.cells #[.slice none 0 0] 102) = V2 at *
  clear hV2
  obtain ⟨bs, hbs⟩ : ∃ q, q = W1.heap.size := ⟨_, rfl⟩
  rw [← hbs] at W2 B2 hqz ⊢
  have HBS := Hid.mk' hbs
  have z2 := Hid.mk' (show bs ≤ V2.heap.size by rw [hbs]; exact B2.out.size)
  have L2 := Hid.mk' (hl.out.low (bT B1.out (by rw [← hbs]; exact B2.out)) (show w.heap.size ≤ bs by rw [hbs]; exact B1.out.size))
  have R2 := Hid.mk' (hr.out.low (bT B1.out (by rw [← hbs]; exact B2.out)) (show w.heap.size ≤ bs by rw [hbs]; exact B1.out.size))
  clear hbs
  have D1 := Hid.mk' (wtree_rdw l lv bs bs _ [] V2 gl.out.ft (by omega) L2.out W2.out z2.out (by simp; omega))
  go_wp2_with fail
  refine D1.out.mono ?_
  rintro e w3 ⟨i3, v3, M3, rfl, q1, q2, q3, q4⟩
  have W3 := Hid.mk' q1
  have J3 := Hid.mk' q2
  have B3 := Hid.mk' (q3.under W2.out B2.out z2.out)
  have z3 := Hid.mk' (show bs ≤ w3.heap.size by have := z2.out; have := q3.size; omega)
  have R3 := Hid.mk' (R2.out.grw q3 W2.out z2.out)
  have C3 := Hid.mk' q4
  clear q1 q2 q3 q4 D1
  have D2 := Hid.mk' (wtree_rdw r rv bs bs v3 ([] ++ M3) w3 gr.out.ft (by omega) R3.out W3.out z3.out (by have := C3.out; simp; omega))
  go_wp2_with fail
  refine D2.out.mono ?_
  rintro e w4 ⟨i4, v4, M4, rfl, q1, q2, q3, q4⟩
  have W4 := Hid.mk' q1
  have J4 := Hid.mk' q2
  have B4 := Hid.mk' (q3.under W3.out B3.out z3.out)
  have z4 := Hid.mk' (show bs ≤ w4.heap.size by have := z3.out; have := q3.size; omega)
  have C4 := Hid.mk' q4
  clear q1 q2 q3 q4 D2
  have Z4 : Hid (Blk w4 qz 59 #[.int .i64 ps, .int .i64 po, .int .i64 pl, .int .i64 pn]) := by have h := HZ.out; unfold Hid; unfold Blk at *; rw [B4.out.block qz hqz]; exact h
  obtain ⟨c0, c1, c2, c3⟩ := Z4.out.four
  have D3 := Hid.mk' (wjoin_both l r i3 i4 ps po pl pn bs bs v4 ([] ++ M3 ++ M4) w4 (by have x1 := C3.out; have x2 := C4.out; have x3 := gl.out.ht; simp; omega) hs gl.out gr.out W4.out (J3.out.more M4) J4.out z4.out)
  go_wp2_with fail
  refine D3.out.mono ?_
  rintro e w5 ⟨i5, v5, M5, rfl, q1, q2, q3, q4⟩
  have W5 := Hid.mk' q1
  have J5 := Hid.mk' q2
  have B5 := Hid.mk' (q3.under W4.out B4.out z4.out)
  have z5 := Hid.mk' (show bs ≤ w5.heap.size by have := z4.out; have := q3.size; omega)
  have C5 := Hid.mk' q4
  clear q1 q2 q3 q4 D3
  have B6 := Hid.mk' (show Below w.heap.size w w5 from B1.out.trans (B5.out.mono (by rw [HBS.out]; exact B1.out.size)))
  have D4 := Hid.mk' (wrows_end (jnT l ⟨ps, po, pl, pn⟩ r) i5 bs bs w.heap.size v5 _ w5 (by have x1 := C3.out; have x2 := C4.out; have x3 := gl.out.ht; have x4 := C5.out; simp; omega) J5.out W5.out B6.out.size (by have := jnT_size l r ⟨ps, po, pl, pn⟩; omega))
  go_wp2_with fail
  refine D4.out.mono ?_
  rintro e w6 ⟨l6, rfl, hown, hb6⟩
  have O6 := Hid.mk' hown
  have B7 := Hid.mk' (bT B6.out hb6)
  clear hown hb6 D4
  go_wp2
  go_ret
  exact ⟨l6, rfl, O6.out, B7.out⟩
end Go.Proofs.YtmhpeppbhjpkiaaGreat

/- The contracts of the reference's Split, Insert, Delete. -/
namespace Go.Proofs.YtmhpeppbhjpkiaaGreat
open Go.RowKit

set_option maxHeartbeats 2000000 in
theorem Splitr_no (t : Tr) (lv : Value) (k : Int) (w : World) (hl : Hid (Rdr w lv (rowsT t))) (hk : k < 0 ∨ (t.size : Int) < k) :
    Calls Tryz.prog 113 #[lv, .int .i64 k] w fun e w' => e = .returned (.tuple #[.slice none 0 0, .slice none 0 0, .int .i64 20]) ∧ w' = w := by
  obtain ⟨ao, nn, c, e1, hnn, -, -⟩ := hl.out
  subst e1
  obtain rfl : nn = t.size := by rw [hnn, rowsT_length]
  clear hnn
  rcases hk with hk | hk
  · go_enter Tryz.func113, Tryz.ntmps113
    go_wp2
    exact bodyPost_ret (v := .tuple #[.slice none 0 0, .slice none 0 0, .int .i64 20]) (by simp [results, Tryz.results113, go_sem]) rfl ⟨rfl, rfl⟩
  · have h0 : ¬ (k < 0) := by omega
    go_enter Tryz.func113, Tryz.ntmps113
    go_wp2
    exact bodyPost_ret (v := .tuple #[.slice none 0 0, .slice none 0 0, .int .i64 20]) (by simp [results, Tryz.results113, go_sem]) rfl ⟨rfl, rfl⟩

set_option maxRecDepth 100000 in
set_option maxHeartbeats 4000000 in
theorem Splitr_yes (t : Tr) (lv : Value) (k : Nat) (w : World) (gt : Hid (Gdw t)) (hs : t.size ≤ 524287) (hl : Hid (Rdr w lv (rowsT t))) (hk : Hid (k ≤ t.size)) :
    Calls Tryz.prog 113 #[lv, .int .i64 (k : Int)] w fun e w' => ∃ l1 l2, e = .returned (.tuple #[l1, l2, .int .i64 0]) ∧ Rw1 w (Tr.splitT t k).1 l1 w' ∧ Rw1 w (Tr.splitT t k).2 l2 w' ∧ Below w.heap.size w w' := by
  obtain ⟨ao, nn, c, e1, hnn, -, -⟩ := hl.out
  subst e1
  obtain rfl : nn = t.size := by rw [hnn, rowsT_length]
  clear hnn
  have n1 : ¬ ((k : Int) < 0) := by omega
  have n2 : ¬ ((t.size : Int) < (k : Int)) := by have := hk.out; omega
  have B1 := Hid.mk' (Below.refl w.heap.size w)
  have SG := Hid.mk' (split_gdw (t := t) k gt.out.wh.1 gt.out.ft (by omega))
  go_enter Tryz.func113, Tryz.ntmps113
  go_upto_region 4 with (fail)
  have W2 := Hid.mk' (wd_new w w.heap.size (Nat.le_refl _))
  have B2 := Hid.mk' (bAlloc (Below.refl w.heap.size w) (.cells #[.slice none 0 0] 102))
  generalize hV2 : w.alloc (.cells #[.slice none 0 0] 102) = V2 at *
  clear hV2
  obtain ⟨bs, hbs⟩ : ∃ q, q = w.heap.size := ⟨_, rfl⟩
  rw [← hbs] at W2 B2  ⊢
  have HBS := Hid.mk' hbs
  have z2 := Hid.mk' (show bs ≤ V2.heap.size by rw [hbs]; exact B2.out.size)
  have hwb := Hid.mk' (show w.heap.size ≤ bs by rw [hbs]; exact B1.out.size)
  have L2 := Hid.mk' (hl.out.low (bT B1.out (by rw [← hbs]; exact B2.out)) hwb.out)
  clear hbs
  have D1 := Hid.mk' (wtree_rdw t _ bs bs _ [] V2 gt.out.ft (by omega) L2.out W2.out z2.out (by simp; omega))
  go_wp2_with fail
  refine D1.out.mono ?_
  rintro e w3 ⟨i3, v3, M3, rfl, q1, q2, q3, q4⟩
  have W3 := Hid.mk' q1
  have J3 := Hid.mk' q2
  have B3 := Hid.mk' (q3.under W2.out B2.out z2.out)
  have z3 := Hid.mk' (show bs ≤ w3.heap.size by have := z2.out; have := q3.size; omega)
  have C3 := Hid.mk' q4
  clear q1 q2 q3 q4 D1
  have D2 := Hid.mk' (wsplit_any bs bs t gt.out.wh.1 gt.out.ft (by omega) k i3 w3 v3 ([] ++ M3) hk.out W3.out (by rw [Tr.blk_black gt.out.wh.2]; exact J3.out) z3.out (by have x1 := C3.out; have x2 := gt.out.ht; simp; omega))
  go_wp2_with fail
  refine D2.out.mono ?_
  rintro e w4 ⟨i4, k4, v4, M4, rfl, q1, q2, q2b, q3, q4⟩
  have W4 := Hid.mk' q1
  have J4 := Hid.mk' q2
  have I4 := Hid.mk' q2b
  have B4 := Hid.mk' (q3.under W3.out B3.out z3.out)
  have z4 := Hid.mk' (show bs ≤ w4.heap.size by have := z3.out; have := q3.size; omega)
  have C4 := Hid.mk' q4
  clear q1 q2 q2b q3 q4 D2
  have B6 := Hid.mk' (show Below w.heap.size w w4 from B1.out.trans (B4.out.mono (by rw [HBS.out]; exact Nat.le_refl _)))
  have hNN := Hid.mk' (show ([] ++ M3 ++ M4).length ≤ 2097152 by have x1 := C3.out; have x2 := gt.out.ht; have x4 := C4.out; simp; omega)
  have D4 := Hid.mk' (wrows_end (Tr.splitT t k).1 i4 bs bs w.heap.size v4 _ w4 hNN.out J4.out W4.out B6.out.size (by have := SG.out.2.2.1; omega))
  go_wp2_with fail
  refine D4.out.mono ?_
  rintro e w6 ⟨l6, rfl, hown, hb6⟩
  have O6 := Hid.mk' hown
  have H6 := Hid.mk' hb6
  have B7 := Hid.mk' (bT B6.out hb6)
  clear hown hb6 D4
  have D5 := Hid.mk' (wrows_end (Tr.splitT t k).2 k4 bs bs w.heap.size v4 _ w6 hNN.out I4.out (W4.out.keep H6.out) B7.out.size (by have := SG.out.2.2.2; omega))
  go_wp2_with fail
  refine D5.out.mono ?_
  rintro e w7 ⟨l7, rfl, hown, hb7⟩
  have O7 := Hid.mk' hown
  have O67 := Hid.mk' (own_keep' O6.out hb7)
  have B8 := Hid.mk' (bT B7.out hb7)
  clear hown hb7 D5
  go_wp2
  exact bodyPost_ret (v := .tuple #[l6, l7, .int .i64 0]) (by simp [results, Tryz.results113, go_sem]) rfl ⟨l6, l7, rfl, O67.out, O7.out, B8.out⟩

end Go.Proofs.YtmhpeppbhjpkiaaGreat

