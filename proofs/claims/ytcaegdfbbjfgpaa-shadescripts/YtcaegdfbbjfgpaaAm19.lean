/- The contracts of the reference's Height and Pieces. -/
import Derived.Test.YtcaegdfbbjfgpaaAm14
import Derived.Test.YtcaegdfbbjfgpaaAm18
namespace Go.Proofs.Ytcaegdfbbjfgpaa
open Go.RowKit

set_option maxHeartbeats 2000000 in
theorem Heightr_any (t : Tr) (v : Value) (w : World) (hz : t.size ≤ 65536) (hb : t.bal) (hf : t.fits) (hr : Hid (Rdr w v (rowsT t))) :
    Calls Try.prog 21 #[v] w fun e w' => e = .returned (.int .i64 (t.ht : Nat)) ∧ Below w.heap.size w w' := by
  have D := Hid.mk' (look_rdr (rowsT t) v w (by rw [rowsT_length]; exact hz) hr.out)
  have k := lookF_rows t [] [] hb hf rfl
  rw [List.append_nil] at k
  have K : Hid (∀ i2 : Int, (∀ t', lookF (rowsT t) = some [t'] → i2 = (t'.ht : Nat)) → (lookF (rowsT t) = some [] → i2 = 0) → i2 = (t.ht : Nat)) := fun i2 h1 h2 => by
    cases t using Tr.el with
    | nil => exact h2 k
    | node => exact h1 _ k
  clear k
  go_enter Try.func21, Try.ntmps21
  go_wp2_with fail
  refine D.out.mono ?_
  rintro e w9 ⟨⟨b0, i1, i2, i3, i4, i5, rfl, q1, q2⟩, hb9⟩
  obtain rfl := K.out i2 q1 q2
  have H9 := Hid.mk' hb9
  clear q1 q2 hb9 D
  go_wp2
  go_ret
  exact ⟨rfl, bAlloc H9.out _⟩

/-- a row apart from the wood stays -/
theorem own_grw {W W' : World} {B base e size n : Nat} {v v' ls : Value} {xs : List Value} (h : W.ownsRow base e size ls n xs) (hg : Grw W W' B v v') (h1 : ls.ownBlock ≠ some B) (h2 : ∀ k, ls.ownBlock = some k → v.ownBlock ≠ some k) : W'.ownsRow base e size ls n xs := by
  refine ⟨h.1, ?_⟩
  rcases h.2 with hn | ⟨g, cap, cur, rfl, hb, hgg, rest⟩
  · exact .inl hn
  · refine .inr ⟨g, cap, cur, rfl, hb, ?_, rest⟩
    rw [hg.block g (Array.getElem?_eq_some_iff.1 hgg).1 (fun e => h1 (by rw [e]; rfl)) (fun e => h2 g rfl e.symm)]
    exact hgg
theorem Grl.under {W W' w0 : World} {base : Nat} {l l' : Value} (h : Grl W W' l l') (hb : Below base w0 W) (hz : base ≤ W.heap.size) (hl : ∀ k, l.ownBlock = some k → base ≤ k) : Below base w0 W' :=
  ⟨h.gr.os.trans hb.os, h.gr.tape.trans hb.tape, h.gr.output.trans hb.output, Nat.le_trans hb.size h.gr.size, fun k hk => (h.gr.block k (by omega) (fun e => by have := hl k e.symm; omega)).trans (hb.block k hk)⟩
theorem grown_below {W W' : World} (h : W.grownBy W' none) : Below W.heap.size W W' := ⟨h.os, h.tape, h.output, h.size, fun k hk => h.block k hk (by simp)⟩
/-- a wood, new -/
theorem wd_new (w : World) (base : Nat) (hB : base ≤ w.heap.size) : Wd (w.alloc (.cells #[.slice none 0 0] 88)) base w.heap.size (.slice none 0 0) [] := ⟨Blk.new w 88 _, World.ownsRow_nil _ _ _ _, hB⟩

set_option maxHeartbeats 2000000 in
theorem Piecesr_any (t : Tr) (v : Value) (w : World) (hz : Hid (t.size ≤ 5000)) (hf : Hid t.fits) (hr : Hid (Rdr w v (rowsT t))) :
    Calls Try.prog 16 #[v] w fun e w' => ∃ l', e = .returned l' ∧ w'.ownsRow w.heap.size 32 4 l' t.size (cells t.list) ∧ Below w.heap.size w w' := by
  obtain ⟨ao, n, c, rfl, hn, hc, hrow⟩ := hr.out
  obtain rfl : n = t.size := by rw [hn, rowsT_length]
  obtain ⟨i0, hi, hz0, hz1, hz2⟩ := info_parts info32
  have HR : Hid (t.size = 0 ∨ ∃ b off, ao = some ⟨b, off, none⟩ ∧ RowR w b off (rowsT t) ∧ b < w.heap.size) := by
    rcases hrow with e | ⟨b, off, e, hrow⟩
    · exact .inl (by rw [← rowsT_length, e]; rfl)
    · rcases Nat.eq_zero_or_pos t.size with h0 | h0
      · exact .inl h0
      · refine .inr ⟨b, off, e, hrow, ?_⟩
        rcases hp : (rowsT t)[0]? with _ | q
        · have := List.getElem?_eq_none_iff.1 hp; rw [rowsT_length] at this; omega
        · exact cell_lt (hrow 0 q hp).1
  clear hrow hn hr
  go_enter Try.func16, Try.ntmps16
  go_wp2_with (at_make; refine wpList_make_own _ rfl _ _ 33 rfl w.heap.size 32 i0 (.agg #[.int .i64 0, .int .i64 0, .int .i64 0, .int .i64 0]) 4 Try.underlying33 hi hz0 hz1 _ _ _ t.size rfl rfl rfl ?bytes ?maxl ?base ?_)
  case bytes => rw [hz2]; have := hz.out; omega
  case maxl => have := hz.out; unfold maxLen; omega
  case base => simp
  intro w2 hown hgrow
  have b2 := Hid.mk' (bA (grown_below hgrow))
  have W2 := Hid.mk' ((wd_new w w.heap.size (Nat.le_refl _)).keep (grown_below hgrow))
  have O2 := Hid.mk' hown
  have s2 := Hid.mk' b2.out.size
  have s3 := Hid.mk' ((hown.lt _ rfl).2)
  clear hown hgrow
  have D1 := Hid.mk' (wtree_any w.heap.size w.heap.size ao c t w2 (.slice none 0 0) [] hf.out (by have := hz.out; omega) (by
    rcases HR.out with h | ⟨b, off, e, h, hl⟩
    · exact .inl h
    · exact .inr ⟨b, off, e, h.keep b2.out, hl⟩) W2.out s2.out (by have := hz.out; simp; omega))
  go_wp2_with fail
  refine D1.out.mono ?_
  rintro e w4 ⟨i4, v4, M4, rfl, q1, q2, q3, q4⟩
  have W4 := Hid.mk' q1
  have J4 := Hid.mk' q2
  have b4 := Hid.mk' (q3.under W2.out b2.out s2.out)
  have s4 := Hid.mk' (Nat.le_trans s2.out q3.size)
  have O4 := Hid.mk' (own_grw O2.out q3 (by simp [Value.ownBlock]) (fun k hk => by simp [Value.ownBlock]))
  have F4 := Hid.mk' (show Fr2 w4 (.slice (some ⟨w.heap.size + 1, 0, none⟩) 0 t.size) w.heap.size v4 from ⟨by simp [Value.ownBlock], fun k hk e => q3.own_ne (k := k) (by have := s3.out; simp [Value.ownBlock] at e; omega) (by simp [Value.ownBlock]) hk⟩)
  clear q1 q2 q3 q4 D1
  have D2 := Hid.mk' (wpieces_any w.heap.size w.heap.size v4 ([] ++ M4) w.heap.size t i4 _ 0 [] w4 J4.out W4.out F4.out O4.out s4.out (by have := hz.out; omega))
  go_wp2_with fail
  refine D2.out.mono ?_
  rintro e w5 ⟨l5, rfl, hown5, hg5⟩
  have O5 := Hid.mk' hown5
  have b5 := Hid.mk' (hg5.under b4.out s4.out (fun k hk => (O4.out.lt k hk).1))
  clear hown5 hg5 D2
  go_wp2
  go_ret
  exact ⟨l5, rfl, by simpa using O5.out, b5.out⟩
end Go.Proofs.Ytcaegdfbbjfgpaa

/- The contract of the reference's Build. -/
namespace Go.Proofs.Ytcaegdfbbjfgpaa
open Go.RowKit

set_option maxRecDepth 100000 in
set_option maxHeartbeats 4000000 in
theorem Buildr_any (v : Value) (L : List Pc) (w : World) (hz : L.length ≤ 5000) (h : Hid (Rdb w v L)) :
    Calls Try.prog 15 #[v] w fun e w' => ∃ l', e = .returned l' ∧ w'.ownsRow w.heap.size 72 10 l' (Tr.buildT (good L)).size (rcells (rowsT (Tr.buildT (good L)))) ∧ Below w.heap.size w w' := by
  obtain ⟨ao, n, c, rfl, hn, hc, hr⟩ := h.out
  have HR : Hid (L = [] ∨ ∃ b off, ao = some ⟨b, off, none⟩ ∧ Row w b off L) := hr
  subst hn
  clear h hr
  obtain ⟨i0, hi, hz0, hz1, hz2⟩ := info_parts info32
  go_enter Try.func15, Try.ntmps15
  go_wp2_with (at_make; refine wpList_make_own _ rfl _ _ 33 rfl w.heap.size 32 i0 (.agg #[.int .i64 0, .int .i64 0, .int .i64 0, .int .i64 0]) 4 Try.underlying33 hi hz0 hz1 _ _ _ L.length rfl rfl rfl ?bytes ?maxl ?base ?_)
  case bytes => rw [hz2]; omega
  case maxl => unfold maxLen; omega
  case base => simp
  intro w1 hown1 hgrow1
  have O1 := Hid.mk' hown1
  have B1 := Hid.mk' (grown_below hgrow1)
  clear hown1 hgrow1
  go_wp2
  go_loopw [3, 4] (fun g i wr => ∃ j : Nat, j ≤ L.length ∧ i = .int .i64 j ∧ wr.ownsRow w.heap.size 32 4 g (good (L.take j)).length (cells (good (L.take j))) ∧ Below w.heap.size w wr) (fun _ i _ => L.length - (intOf i).toNat)
  case atStart => exact ⟨0, Nat.zero_le _, rfl, O1.out, B1.out⟩
  case round =>
    obtain ⟨j, hj, rfl, hown, hb⟩ := hrel
    have HW : Hid (wr.ownsRow w.heap.size 32 4 u3 (good (L.take j)).length (cells (good (L.take j)))) := hown
    have HB : Hid (Below w.heap.size w wr) := hb
    clear hown hb
    by_cases hlt : j < L.length
    · rcases HR.out with hn | ⟨b, off, rfl, hr⟩
      · rw [hn] at hlt; simp at hlt
      rcases hp : L[j]? with _ | ⟨s, o, n, k⟩
      · have := List.getElem?_eq_none_iff.1 hp; omega
      obtain ⟨r0, r1, r2, r3⟩ := row4 (hr.keep HB.out) hp
      have hj0 : (0 : Int) ≤ (j : Int) := by omega
      have hjl : (j : Int) < (L.length : Int) := by omega
      have HG : Hid (good (L.take (j + 1)) = good (L.take j) ++ if fitB n k = true then [⟨s, o, n, k⟩] else []) := good_take hp
      have hgl : (good (L.take j)).length ≤ j := by have := good_le (L.take j); have := List.length_take_le j L; omega
      clear hr hp
      cases hf : fitB n k with
      | false =>
        rw [hf] at HG
        go_wp2_with (go_at_call 25; refine (refFit_any s o n k _).mono ?_; rintro e w' ⟨rfl, rfl⟩; rw [hf])
        go_roundw
        case rel => exact ⟨j + 1, by omega, by go_num, by rw [HG.out]; simpa using (HW.out.alloc _), bAlloc HB.out _⟩
        case measure => simp [intOf]; omega
      | true =>
        rw [hf] at HG
        have a0 := alp r0 (.cells #[.int .i64 s, .int .i64 o, .int .i64 n, .int .i64 k] 32)
        have a1 := alp r1 (.cells #[.int .i64 s, .int .i64 o, .int .i64 n, .int .i64 k] 32)
        have a2 := alp r2 (.cells #[.int .i64 s, .int .i64 o, .int .i64 n, .int .i64 k] 32)
        have a3 := alp r3 (.cells #[.int .i64 s, .int .i64 o, .int .i64 n, .int .i64 k] 32)
        go_wp2_with (first | (go_at_call 25; refine (refFit_any s o n k _).mono ?_; rintro e w' ⟨rfl, rfl⟩; rw [hf])
                           | (at_builtin; refine wpList_append_own _ rfl (.tmp 20) (.tmp 25) 33 rfl w.heap.size 32 i0 (.agg #[.int .i64 0, .int .i64 0, .int .i64 0, .int .i64 0]) 4 32 Try.underlying33 hi hz0 hz1 hz2 rfl (by decide) u3 (good (L.take j)).length (cells (good (L.take j))) rfl ((HW.out.alloc _).alloc _) ⟨wr.heap.size + 1, 0, none⟩ 1 1 [.int .i64 s, .int .i64 o, .int .i64 n, .int .i64 k] rfl rfl ?qd2 ?qd3 ?qd4 ?qd5 ?qd6 ?_))
        case qd2 => exact fun k' u hk => by have := lit_cells (wr.alloc (.cells #[.int .i64 s, .int .i64 o, .int .i64 n, .int .i64 k] 32)) #[.int .i64 s, .int .i64 o, .int .i64 n, .int .i64 k] 32 k' u hk; simpa using this
        case qd3 => intro u hu; simp at hu; rcases hu with rfl | rfl | rfl | rfl <;> rfl
        case qd4 => unfold maxLen; omega
        case qd5 => omega
        case qd6 => have := HB.out.size; simp at this ⊢; omega
        intro v' w2 hown hgrow _
        have HW2 : Hid (w2.ownsRow w.heap.size 32 4 v' (good (L.take (j + 1))).length (cells (good (L.take (j + 1))))) := by
          unfold Hid
          rw [HG.out]
          simp only [if_true, List.length_append, cells_append]
          exact hown
        have HB2 : Hid (Below w.heap.size w w2) := (bAlloc (bAlloc HB.out _) _).grown hgrow (by have := HB.out.size; simp at this ⊢; omega) (fun k hk => by have := (HW.out.lt k hk).1; simpa using this)
        clear hown hgrow
        go_wp2
        go_roundw
        case rel => exact ⟨j + 1, by omega, by go_num, HW2.out, HB2.out⟩
        case measure => simp [intOf]; omega
    · obtain rfl : j = L.length := by omega
      rw [List.take_length] at HW
      have hzl := Hid.mk' HB.out.size
      have W4 := Hid.mk' (wd_new wr wr.heap.size (Nat.le_refl _))
      have hgz := good_le L
      have OK := Hid.mk' (Tr.buildT_ok _ (good L) (Nat.le_refl _))
      have hT : Hid ((Tr.buildT (good L)).size = (good L).length) := by unfold Hid; rw [← Tr.size_list, OK.out.2]
      have D1 := Hid.mk' (wbuilt_any wr.heap.size wr.heap.size (good L).length (good L) u3 (Nat.le_refl _) (by omega) (fineL_good (by omega)) (wr.alloc (.cells #[.slice none 0 0] 88)) (.slice none 0 0) [] W4.out (by
        obtain ⟨ao', n', c', e1, e2, e3, e4⟩ := own_rdb HW.out
        refine ⟨ao', n', c', e1, e2, e3, ?_⟩
        rcases e4 with e4 | ⟨b, off, e4, e5⟩
        · exact .inl e4
        · rcases hg0 : (good L)[0]? with _ | q
          · have := List.getElem?_eq_none_iff.1 hg0
            exact .inl (List.eq_nil_of_length_eq_zero (by omega))
          · exact .inr ⟨b, off, e4, e5.keep (bAlloc (Below.refl _ _) _), cell_lt (e5 0 q hg0).1⟩) (by simp) (by simp; omega))
      go_wp2_with fail
      refine D1.out.mono ?_
      rintro e w5 ⟨i5, v5, M5, rfl, q1, q2, q3, q4⟩
      have W5 := Hid.mk' q1
      have J5 := Hid.mk' q2
      have b5 := Hid.mk' (show Below w.heap.size w w5 from HB.out.trans ((q3.under W4.out (bAlloc (Below.refl _ _) _) (by simp)).mono hzl.out))
      have s5 := Hid.mk' b5.out.size
      have c5 := Hid.mk' q4
      clear q1 q2 q3 q4 D1
      have D2 := Hid.mk' (wrows_any wr.heap.size wr.heap.size v5 ([] ++ M5) w.heap.size (by have := c5.out; simp; omega) (Tr.buildT (good L)) i5 (.slice none 0 0) 0 [] w5 J5.out W5.out ⟨by simp [Value.ownBlock], fun k _ => by simp [Value.ownBlock]⟩ (World.ownsRow_nil _ _ _ _) s5.out (by have := hT.out; omega))
      go_wp2_with fail
      refine D2.out.mono ?_
      rintro e w6 ⟨l6, rfl, hown6, hg6⟩
      have O6 := Hid.mk' hown6
      have b6 := Hid.mk' (hg6.under b5.out s5.out (fun k hk => by simp [Value.ownBlock] at hk))
      clear hown6 hg6 D2
      go_wp2
      go_ret
      exact ⟨l6, rfl, by simpa using O6.out, b6.out⟩
end Go.Proofs.Ytcaegdfbbjfgpaa

