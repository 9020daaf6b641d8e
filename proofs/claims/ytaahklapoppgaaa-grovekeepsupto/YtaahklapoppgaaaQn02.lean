/- The reference's Copy. -/
import Derived.Test.YtaahklapoppgaaaQn01
namespace Go.Proofs.Ytaahklapoppgaaa
open Go.RowKit

set_option maxRecDepth 8000
/-- what lies ahead of a copy: the history, the result, what is made -/
structure C3 (w W : World) (ao : Option Addr) (n c : Nat) (now : Int) (v : Value) : Prop where
  b1 : Blk W w.heap.size 24 #[.slice ao n c, .int .i64 now]
  b2 : Blk W (w.heap.size + 1) 24 #[.slice none 0 0, .int .i64 0]
  b3 : Blk W (w.heap.size + 1 + 1) 24 #[v, .int .i64 now]
  bel : Below w.heap.size w W
theorem C3.keep {w W W' : World} {ao : Option Addr} {n c : Nat} {now : Int} {v : Value} (h : C3 w W ao n c now v) (hb : Below W.heap.size W W') : C3 w W' ao n c now v := ⟨h.b1.keep hb, h.b2.keep hb, h.b3.keep hb, bT h.bel hb⟩
theorem C3.grown {w W W' : World} {ao : Option Addr} {n c : Nat} {now : Int} {v : Value} {r : Option Nat} (h : C3 w W ao n c now v) (hg : W.grownBy W' r) (hr : ∀ k, r = some k → w.heap.size + 1 + 1 < k) : C3 w W' ao n c now v :=
  ⟨h.b1.grown hg (fun e => by have := hr _ e.symm; omega), h.b2.grown hg (fun e => by have := hr _ e.symm; omega), h.b3.grown hg (fun e => by have := hr _ e.symm; omega), h.bel.grown hg h.bel.size (fun k hk => by have := hr k hk; omega)⟩
theorem C3.put {w W : World} {ao : Option Addr} {n c : Nat} {now : Int} {v : Value} (h : C3 w W ao n c now v) (v' : Value) : C3 w (W.setCell ⟨w.heap.size + 1 + 1, 0, none⟩ v') ao n c now v' :=
  ⟨h.b1.off (by omega) _, h.b2.off (by omega) _, h.b3.set (j := 0) v', h.bel.setCell (by show w.heap.size ≤ w.heap.size + 1 + 1; omega) _⟩
theorem c3_new (w : World) (ao : Option Addr) (n c : Nat) (now : Int) : C3 w (((w.alloc (.cells #[.slice ao n c, .int .i64 now] 24)).alloc (.cells #[.slice none 0 0, .int .i64 0] 24)).alloc (.cells #[.slice none 0 0, .int .i64 now] 24)) ao n c now (.slice none 0 0) := by
  have e1 := Blk.new w 24 #[.slice ao n c, .int .i64 now]
  have e2 := Blk.new (w.alloc (.cells #[.slice ao n c, .int .i64 now] 24)) 24 #[.slice none 0 0, .int .i64 0]
  have e3 := Blk.new ((w.alloc (.cells #[.slice ao n c, .int .i64 now] 24)).alloc (.cells #[.slice none 0 0, .int .i64 0] 24)) 24 #[.slice none 0 0, .int .i64 now]
  simp only [World.size_alloc] at e2 e3
  have k : ∀ {W : World} {B e : Nat} {cs : Array Value} (o : Obj), Blk W B e cs → Blk (W.alloc o) B e cs := fun o h => h.keep (bAlloc (Below.refl _ _) _)
  exact ⟨k _ (k _ e1), k _ e2, e3, bAlloc (bAlloc (bAlloc (Below.refl _ _) _) _) _⟩
set_option maxHeartbeats 16000000 in
set_option linter.unusedSimpArgs false in
theorem rcopy_walk (Z : Nr) (hZ : Z.cs.length = 58) (hz63 : ∀ w, (zeroValue 63).run Try.prog w = .ok (.agg (nd Z)) w) (ao : Option Addr) (n c : Nat) (now : Int) (G : List Nr) (w : World) (HG : Hid (Grz w ao G)) (hn : G.length = n) (hb : n ≤ 1000000) :
    Calls Try.prog 36 #[.agg #[.slice ao n c, .int .i64 now]] w fun e w' => RcP (G.map Nr.d) now w e w' := by
  have HN := mkH hn
  have hZn : nd Z ≠ #[] := fun h => by have := congrArg Array.size h; simp [nd, hZ] at this
  have U0 := mkH (c3_new w ao n c now)
  have hs0 : ((w.alloc (.cells #[.slice ao n c, .int .i64 now] 24)).alloc (.cells #[.slice none 0 0, .int .i64 0] 24)).heap.size = w.heap.size + 1 + 1 := by simp
  obtain ⟨W0, hW0⟩ : ∃ x, (w.alloc (.cells #[.slice ao n c, .int .i64 now] 24)).alloc (.cells #[.slice none 0 0, .int .i64 0] 24) = x := ⟨_, rfl⟩
  rw [hW0] at U0 hs0
  have d1 : W0.cell? ⟨w.heap.size, 1, none⟩ = some (.int .i64 now) := by
    rw [← hW0]; exact ((Blk.new w 24 #[.slice ao n c, .int .i64 now]).keep (bAlloc (Below.refl _ _) _)).cell rfl
  have S0 : Hid ((W0.alloc (.cells #[.slice none 0 0, .int .i64 now] 24)).heap.size = w.heap.size + 1 + 1 + 1) := by unfold Hid; rw [World.size_alloc, hs0]
  clear hn
  go_enter Try.func36, Try.ntmps36
  go_upto_region 2 with fail
  clear hW0 hs0 d1
  generalize W0.alloc (.cells #[.slice none 0 0, .int .i64 now] 24) = W1 at *
  go_wp2_with fail
  go_loopg [4] n (fun m x4 wx => ∃ (i : Nat) (H : List Nr) (S : List (Nat × Nat)) (v : Value), x4 = .int .i64 (i : Int) ∧ i + m = n ∧ Hid (H.length = i) ∧ Hid (H.map Nr.d = (G.map Nr.d).take i) ∧ Hid (Hrow (w.heap.size + 1 + 1 + 1) wx.heap.size wx v H S) ∧ Hid (C3 w wx ao n c now v))
  case atStart => exact ⟨0, [], [], .slice none 0 0, rfl, by omega, rfl, rfl, Hrow.new (by have := S0.out; omega) (Nat.le_refl _), U0.out⟩
  case round =>
    obtain ⟨i, H, S, v, rfl, him, KL, KD, KH, KC⟩ := hrel
    obtain ⟨go, hgo⟩ : ∃ g, g = gk - 1 := ⟨_, rfl⟩
    have a0 : wr.cell? ⟨w.heap.size, 0, none⟩ = some (.slice ao n c) := KC.out.b1.cell rfl
    by_cases hi : i < n
    · have hi' : (i : Int) < (n : Int) := by omega
      have hi0 : (0 : Int) ≤ (i : Int) := by omega
      have hw1 : IntKind.i64.wrap ((i : Int) + 1) = ((i + 1 : Nat) : Int) := by rw [IntKind.wrap_i64]; omega
      obtain ⟨r, hr⟩ : ∃ r, G[i]? = some r := ⟨_, List.getElem?_eq_getElem (by have := HN.out; omega)⟩
      have hz := HG.out.nds i r hr
      have HZ := mkH hz
      obtain ⟨g, o, rfl, hnc⟩ := HG.out.at hr
      have HC : Hid (wr.rangeAt g (o + i * 58) r.cs) := range_keep hnc.all KC.out.bel
      have HMt : Hid ((G.map Nr.d).take (i + 1) = (G.map Nr.d).take i ++ [r.d]) := by
        have hd : (G.map Nr.d)[i]? = some r.d := by rw [List.getElem?_map, hr]; rfl
        obtain ⟨h1, h2⟩ := List.getElem?_eq_some_iff.1 hd
        unfold Hid
        rw [List.take_succ_eq_append_getElem h1, h2]
      have hcl : r.cs.length = 58 := hz.cl
      obtain ⟨p, hp⟩ : ∃ p, wr.heap.size = p := ⟨_, rfl⟩
      have A1 : Hid (Blk (wr.alloc (.cells (nd Z) 63)) p 63 (nd Z)) := by unfold Hid; rw [← hp]; exact Blk.new wr 63 _
      have A2 : Hid (Blk ((wr.alloc (.cells (nd Z) 63)).setCells p 0 r.cs) p 63 (nd r)) := put_blk (old := Z.cs) (by rw [hZ, hcl]) A1.out
      have A3 : Hid (Below wr.heap.size wr ((wr.alloc (.cells (nd Z) 63)).setCells p 0 r.cs)) := below_setCells (by omega) _ _ (bAlloc (Below.refl _ _) _)
      clear hr hz hnc
      go_upto_region 6 with (first | refine wl_ld63 (B := g) (o := o + i * 58) (r := r) (.tmp 19) rfl rfl rfl hcl HC.out ?_ | refine wl_st63 (B := p) (o := 0) (r := r) (.tmp 5) (.tmp 20) rfl rfl rfl rfl hcl (by have := there_blk (cs := Z.cs) A1.out; rwa [hZ] at this) ?_ | fail)
      have R1 := mkH (KH.out.keep A3.out)
      have C1 := mkH (KC.out.keep A3.out)
      have HP : Hid (w.heap.size + 1 + 1 < p) := by unfold Hid; rw [← hp]; exact KC.out.b3.lt
      have HPs : Hid (wr.heap.size = p) := hp
      have HB1 := mkH (A3.out)
      clear A1 A3 KC KH HC hp
      generalize (wr.alloc (.cells (nd Z) 63)).setCells p 0 r.cs = w1 at *
      have N1 := mkH (Nb.of (r := r) A2.out HZ.out.ww.len)
      have t2 := N1.out.c2
      have CE := mkH (redits_any r.ea r.en r.ec r.E w1 ((HZ.out.ez.keep C1.out.bel)) HZ.out.len HZ.out.big)
      obtain ⟨ea, en, ec, he1, he2, he3⟩ : ∃ ea en ec, r.ea = ea ∧ r.en = en ∧ r.ec = ec := ⟨_, _, _, rfl, rfl, rfl⟩
      rw [he1, he2, he3] at t2 CE
      have HE2 := mkH he2
      clear he1 he2 he3
      go_wp2_with fail
      refine CE.out.mono ?_
      rintro e w5 ⟨v5, F, rfl, hF, hL⟩
      obtain ⟨va, vc, rfl, -, -⟩ := hL.edz
      have hB5 := hL.bel
      have R5 := mkH (R1.out.keep hB5)
      have C5 := mkH (C1.out.keep hB5)
      have P5 := mkH (A2.out.keep hB5)
      have LL := mkH (Ls.of hL)
      have HF := mkH hF
      have HFl : Hid (F.length = en) := by
        have := congrArg List.length hF
        rw [List.length_map, List.length_map, HZ.out.len, HE2.out] at this
        exact this
      have B5 : Hid (Below p w1 w5) := hB5.mono (by have := A2.out.lt; omega)
      have HS5 : Hid (p < w1.heap.size ∧ w1.heap.size ≤ w5.heap.size) := ⟨A2.out.lt, hB5.size⟩
      obtain ⟨fl, hfl⟩ : ∃ fl, F.length = fl := ⟨_, rfl⟩
      rw [hfl] at LL HFl ⊢
      have HFL := mkH hfl
      have Q6 : Hid (w5.grownBy (w5.setCell ⟨p, 2, none⟩ (.slice va fl vc)) (some p)) := grown_set _ _ _ _
      have P6 : Hid (Blk (w5.setCell ⟨p, 2, none⟩ (.slice va fl vc)) p 63 (nd (r.wE va vc F))) := by
        have := P5.out.set (j := 2) (.slice va fl vc)
        have e9 := wE_nd r va vc F
        rw [hfl] at e9
        rwa [e9] at this
      have t5 : w5.cell? ⟨p, 2, none⟩ = some (.slice ea en ec) := cell_keep t2 hB5
      have f5 : w5.frozen? ⟨p, 2, none⟩ = false := P5.out.frozen _
      clear hF hL hB5 CE R1 C1 N1 t2 A2 hfl HB1
      dsimp only
      go_upto_region 7 with fail
      generalize w5.setCell ⟨p, 2, none⟩ (.slice va fl vc) = w6 at *
      have K6 : Hid (Kept p (p + 1) w5 w6) := Kept.one Q6.out
      have R6 := mkH (R5.out.kept K6.out (.inr (by have := HPs.out; omega)))
      have C6 := mkH (C5.out.grown Q6.out (fun k hk => by injection hk with hk; have := HP.out; omega))
      have L6 : Hid (Ls w1.heap.size w5.heap.size w6 (.slice va fl vc) F) := LL.out.kept K6.out (.inl (by have := HS5.out; omega))
      obtain ⟨r2, hr2⟩ : ∃ r2, r.wE va vc F = r2 := ⟨_, rfl⟩
      have W6 : Hid (Nw w1.heap.size w5.heap.size w6 r2) := by
        unfold Hid
        rw [← hr2]
        exact ⟨by show Ls _ _ _ (.slice va F.length vc) F; rw [HFL.out]; exact L6.out, rfl, by show F.length * 56 ≤ _; rw [HFL.out, HFl.out, ← HE2.out]; exact HZ.out.big, HZ.out.ww, HZ.out.wm⟩
      have D2 : Hid (r2.d = r.d) := by unfold Hid; rw [← hr2]; exact nd_ext (r' := r.wE va vc F) (r := r) rfl rfl HF.out rfl rfl rfl
      rw [hr2] at P6
      have hcl2 : r2.cs.length = 58 := W6.out.nz.cl
      have HSz : Hid (w1.heap.size ≤ w5.heap.size ∧ w5.heap.size ≤ w6.heap.size ∧ p < w1.heap.size) := ⟨HS5.out.2, Q6.out.size, HS5.out.1⟩
      obtain ⟨z, hz⟩ : ∃ z, w6.heap.size = z := ⟨_, rfl⟩
      obtain ⟨W7, hW7⟩ : ∃ x, w6.alloc (.cells (nd r2) 63) = x := ⟨_, rfl⟩
      have hbs := bs22 w6 r2 W6.out.ww.len W6.out.wm.len
      rw [hz, hW7] at hbs
      have B7 : Hid (Below w6.heap.size w6 W7) := by unfold Hid; rw [← hW7]; exact bAlloc (Below.refl _ _) _
      have Z7 : Hid (Blk W7 z 63 (nd r2)) := by unfold Hid; rw [← hW7, ← hz]; exact Blk.new w6 63 _
      have C7 := mkH (C6.out.keep B7.out)
      obtain ⟨v', W8, hap, hrow, hg8, -⟩ := (R6.out.keep B7.out).app (lo' := w.heap.size + 1 + 1 + 1) (W6.out.keep B7.out) HSz.out.1 (by have := HSz.out; have := B7.out.size; omega) (.inl (by have := HPs.out; have := HSz.out; omega)) ⟨Nat.le_refl _, by have := HP.out; have := HSz.out; omega⟩ (by have := KL.out; omega) Z7.out
      obtain ⟨v9, k9, e9⟩ := own_shape hrow.own
      obtain ⟨n9, hn9⟩ : ∃ n9, (H ++ [r2]).length = n9 := ⟨_, rfl⟩
      rw [hn9] at e9
      subst e9
      have C8 := mkH (C7.out.grown hg8 (fun k hk => by have := ((R6.out.keep B7.out).own.lt k hk).1; omega))
      have H8 := mkH hrow
      have HAP := mkH hap
      have HBS := mkH hbs
      have c6 : w6.cell? ⟨w.heap.size + 1 + 1, 0, none⟩ = some v := C6.out.b3.cell rfl
      have c8 : W8.cell? ⟨w.heap.size + 1 + 1, 0, none⟩ = some v := C8.out.b3.cell rfl
      have f8 : W8.frozen? ⟨w.heap.size + 1 + 1, 0, none⟩ = false := C8.out.b3.frozen _
      clear hn9 hap hbs hrow hg8 hz hW7 hr2 R6 L6 K6 Q6 LL R5 C5 P5 t5 f5
      go_upto_region 4 with (first | refine wl_ld63 (B := p) (o := 0) (r := r2) (.tmp 5) rfl rfl rfl hcl2 (range_blk P6.out) ?_ | refine wl_bsl rfl 22 1 _ rfl #[(0, .agg (nd r2))] (by kernel_rfl) HBS.out ?_ | (at_builtin; refine wl_app2 rfl (.tmp 26) (.tmp 28) 22 rfl rfl rfl HAP.out ?_) | fail)
      have C9 := mkH (C8.out.put (.slice v9 n9 k9))
      have H9 := mkH (H8.out.kept (Kept.one (grown_set W8 (w.heap.size + 1 + 1) 0 (.slice v9 n9 k9))) (.inl (Nat.le_refl _)))
      have S9 : Hid (W8.heap.size ≤ (W8.setCell ⟨w.heap.size + 1 + 1, 0, none⟩ (.slice v9 n9 k9)).heap.size) := (grown_set W8 (w.heap.size + 1 + 1) 0 (.slice v9 n9 k9)).size
      generalize W8.setCell ⟨w.heap.size + 1 + 1, 0, none⟩ (.slice v9 n9 k9) = w9 at *
      have H10 := mkH (H9.out.wide S9.out (Nat.le_refl _))
      clear c6 c8 f8 H8 H9 C8 C7 C6 HBS HAP P6 Z7
      go_wp2_with fail
      go_roundg go
      case measure => omega
      case rel => exact ⟨i + 1, H ++ [r2], S ++ [(w1.heap.size, w5.heap.size)], .slice v9 n9 k9, by go_num, by omega, by unfold Hid; rw [List.length_append, KL.out]; rfl, by unfold Hid; rw [List.map_append, KD.out, HMt.out, List.map_cons, D2.out]; rfl, H10.out, C9.out⟩
    · have hi' : ¬ (i : Int) < (n : Int) := by omega
      obtain rfl : i = n := by omega
      have HD : Hid (H.map Nr.d = G.map Nr.d) := by unfold Hid; rw [KD.out, List.take_of_length_le (by rw [List.length_map]; have := HN.out; omega)]
      have p0 : wr.cell? ⟨w.heap.size + 1 + 1, 0, none⟩ = some v := KC.out.b3.cell rfl
      have p1 : wr.cell? ⟨w.heap.size + 1 + 1, 1, none⟩ = some (.int .i64 now) := KC.out.b3.cell rfl
      have e0 : wr.cell? ⟨w.heap.size + 1, 0, none⟩ = some (.slice none 0 0) := KC.out.b2.cell rfl
      have e1 : wr.cell? ⟨w.heap.size + 1, 1, none⟩ = some (.int .i64 0) := KC.out.b2.cell rfl
      have f0 : wr.frozen? ⟨w.heap.size + 1, 0, none⟩ = false := KC.out.b2.frozen _
      have f1 : wr.frozen? ⟨w.heap.size + 1, 1, none⟩ = false := KC.out.b2.frozen _
      obtain ⟨va, vc, rfl⟩ : ∃ va vc, v = .slice va H.length vc := own_shape KH.out.own
      obtain ⟨hl, hhl⟩ : ∃ hl, H.length = hl := ⟨_, rfl⟩
      rw [hhl] at p0
      have HHL := mkH hhl
      clear hhl
      go_wp2_with fail
      have KK : Kept (w.heap.size + 1) (w.heap.size + 1 + 1) wr ((wr.setCell ⟨w.heap.size + 1, 0, none⟩ (.slice va hl vc)).setCell ⟨w.heap.size + 1, 1, none⟩ (.int .i64 now)) := (Kept.one (grown_set _ _ _ _)).trans (Kept.one (grown_set _ _ _ _))
      have N4 := set24 (v' := .slice va hl vc) (u' := .int .i64 now) KC.out.b2
      have LB : Below w.heap.size w ((wr.setCell ⟨w.heap.size + 1, 0, none⟩ (.slice va hl vc)).setCell ⟨w.heap.size + 1, 1, none⟩ (.int .i64 now)) := (KC.out.bel.setCell (by show w.heap.size ≤ w.heap.size + 1; omega) _).setCell (by show w.heap.size ≤ w.heap.size + 1; omega) _
      generalize (wr.setCell ⟨w.heap.size + 1, 0, none⟩ (.slice va hl vc)).setCell ⟨w.heap.size + 1, 1, none⟩ (.int .i64 now) = w9 at *
      have l24 := ld24v N4
      have H9 := (KH.out.kept KK (.inl (by omega))).wide KK.size (Nat.le_refl _)
      refine bodyPost_ret (v := .agg #[.slice va hl vc, .int .i64 now]) (by simp [results, Try.results36, asAddr, l24]) rfl ⟨.slice va hl vc, H, S, rfl, HD.out, ?_, LB⟩
      rw [HHL.out] at H9
      exact ⟨own_lower H9.own (by omega), fun B hB => ⟨(H9.up B hB).1, (H9.up B hB).2.wide (by omega) (Nat.le_refl _)⟩, H9.nil, H9.top, LB.size⟩
theorem rcopy_any (ao : Option Addr) (n c : Nat) (now : Int) (G : List Nr) (w : World) (HG : Hid (Grz w ao G)) (hn : G.length = n) (hb : n ≤ 1000000) :
    Calls Try.prog 36 #[.agg #[.slice ao n c, .int .i64 now]] w fun e w' => RcP (G.map Nr.d) now w e w' := rcopy_walk zr rfl z63 ao n c now G w HG hn hb
end Go.Proofs.Ytaahklapoppgaaa
