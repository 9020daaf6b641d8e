/- GroveCrosses, walked. -/
import Derived.Test.YtaahklapoppgaaaQc00
import Derived.Test.YtaahklapoppgaaaQm31
import Derived.Test.YtaahklapoppgaaaQc04
import Derived.Test.YtaahklapoppgaaaQc05
import Derived.Test.YtaahklapoppgaaaQm37
namespace Go.Proofs.Ytaahklapoppgaaa
open Go.RowKit

set_option maxRecDepth 8000
theorem zv41r : (Try.prog.info? 41).map (·.zero) = some (some (.agg (mk zm))) := by kernel_rfl
theorem b50r (w : World) : (Instr.build 50 #[]).run Try.prog w = .ok (.agg (cxa (.slice none 0 0) 0 zm)) w := b50 w
theorem rundo_any (ao : Option Addr) (n c : Nat) (now : Int) (G : List Nr) (m : List Int) (w : World) (HG : Hid (Grz w ao G)) (hn : G.length = n) (hm : Mw m) :
    Calls Try.prog 21 #[.agg #[.slice ao n c, .int .i64 now], .agg (mk m)] w fun e w' => CrQ (undE (G.map Nr.d) now m) (crW (undE (G.map Nr.d) now m) ((Wk.new (G.map Nr.d) now m).up now.toNat)) w e w' :=
  rundo_walk zm rfl rfl z50 b50r ao n c now G m w HG hn hm (fun lo p B n k i now H X S s W h1 h2 h3 h4 => rcross_up zm rfl z50 (fun w => zv_run zv41r w) zr rfl z63 lo p B n k i now none 0 0 0 m H X S [] s W h1 (ls_nil _ _ _) rfl h2 hm h3 h4 (fun r hr => by
    obtain ⟨j, hj⟩ := List.getElem?_of_mem hr
    have := (h1.gow.nz hj).big
    omega))
theorem rredo_any (ao : Option Addr) (n c : Nat) (now : Int) (G : List Nr) (m : List Int) (w : World) (HG : Hid (Grz w ao G)) (hn : G.length = n) (hm : Mw m) :
    Calls Try.prog 22 #[.agg #[.slice ao n c, .int .i64 now], .agg (mk m)] w fun e w' => CrQ (redE (G.map Nr.d) now m) (crW (redE (G.map Nr.d) now m) ((Wk.new (G.map Nr.d) now m).down (at' (G.map Nr.d) now.toNat).nxt.toNat)) w e w' :=
  rredo_walk zm rfl rfl z50 b50r ao n c now G m w HG hn hm (fun lo p B n k i now H X S s W k0 h1 h2 h3 h4 h5 h6 h7 => rcross_down zm rfl z50 (fun w => zv_run zv41r w) zr rfl z63 lo p B n k i now none 0 0 0 m H X S [] s W h1 (ls_nil _ _ _) rfl h2 hm h3 h4 k0 h5 h6 h7 (fun r hr => by
    obtain ⟨j, hj⟩ := List.getElem?_of_mem hr
    have := (h1.gow.nz hj).big
    omega))
theorem rgo_any (ao : Option Addr) (n c : Nat) (now tt : Int) (G : List Nr) (m : List Int) (w : World) (HG : Hid (Grz w ao G)) (hn : G.length = n) (hm : Mw m) (hbig : Hid (∀ i, (at' (G.map Nr.d) i).ed.length ≤ 1048576)) :
    Calls Try.prog 23 #[.agg #[.slice ao n c, .int .i64 now], .int .i64 tt, .agg (mk m)] w fun e w' => CrQ (goE (G.map Nr.d) now tt m) (crW (goE (G.map Nr.d) now tt m) ((Wk.new (G.map Nr.d) now m).go (pathU (G.map Nr.d) now.toNat tt.toNat) (pathD (G.map Nr.d) now.toNat tt.toNat))) w e w' :=
  rgo_walk zm rfl rfl z50 b50r ao n c now tt G m w HG hn hm hbig
    (fun lo p B n k i now va vn vc cur m H X S F s W h1 h2 h3 h4 h5 h6 h7 h8 => rcross_up zm rfl z50 (fun w => zv_run zv41r w) zr rfl z63 lo p B n k i now va vn vc cur m H X S F s W h1 h2 h3 h4 h5 h6 h7 h8)
    (fun lo p B n k i now va vn vc cur m H X S F s W k0 h1 h2 h3 h4 h5 h6 h7 h8 h9 h10 h11 => rcross_down zm rfl z50 (fun w => zv_run zv41r w) zr rfl z63 lo p B n k i now va vn vc cur m H X S F s W h1 h2 h3 h4 h5 h6 h7 k0 h9 h10 h11 h8)
/-- an answer in its boxes -/
structure Bq (W : World) (q r : Nat) (s : Wk) (ao : Option Addr) (n k : Nat) (H : List Nr) (va : Option Addr) (vn vc : Nat) (F : List Er) : Prop where
  b24 : Blk W q 24 #[.slice ao n k, .int .i64 s.now]
  b50 : Blk W r 50 (cxa (.slice va vn vc) s.cur s.m)
  g : Grz W ao H
  l : H.length = n
  d : H.map Nr.d = s.G
  ez : Edz W va F
  fl : F.length = vn
  fd : F.map Er.d = s.E
theorem Bq.keep {W W' : World} {q r : Nat} {s : Wk} {ao : Option Addr} {n k : Nat} {H : List Nr} {va : Option Addr} {vn vc : Nat} {F : List Er} (h : Bq W q r s ao n k H va vn vc F) (hb : Below W.heap.size W W') : Bq W' q r s ao n k H va vn vc F := ⟨h.b24.keep hb, h.b50.keep hb, h.g.keep hb, h.l, h.d, h.ez.keep hb, h.fl, h.fd⟩
/-- what bounds an answer -/
structure Sb (s : Wk) : Prop where
  g : s.G.length ≤ 1048576
  e : s.E.length ≤ 8594128896
  m : s.m.length = 27
theorem sb_crw {z : Int} {s : Wk} (h : Sb s) : Sb (crW z s) := by
  unfold crW
  split
  · exact h
  · exact ⟨by simp, by simp, rfl⟩
theorem bq_g {W : World} {q r q' r' : Nat} {s : Wk} {ao ao' : Option Addr} {n k n' k' : Nat} {H H' : List Nr} {va va' : Option Addr} {vn vc vn' vc' : Nat} {F F' : List Er} (h : Bq W q r s ao n k H va vn vc F) (h' : Bq W q' r' s ao' n' k' H' va' vn' vc' F') (hs : Sb s) : Calls Try.prog 11 #[.agg #[.slice ao n k, .int .i64 s.now], .agg #[.slice ao' n' k', .int .i64 s.now]] W fun e w' => e = .returned (.bool true) ∧ Below W.heap.size W w' :=
  sameG_yes ao n k s.now H ao' n' k' H' W h.g h'.g h.l h'.l (h.d.trans h'.d.symm) (by have h1 := hs.g; rw [← h.d, List.length_map, h.l] at h1; omega)
theorem bq_c {W : World} {q r q' r' : Nat} {s : Wk} {ao ao' : Option Addr} {n k n' k' : Nat} {H H' : List Nr} {va va' : Option Addr} {vn vc vn' vc' : Nat} {F F' : List Er} (h : Bq W q r s ao n k H va vn vc F) (h' : Bq W q' r' s ao' n' k' H' va' vn' vc' F') (hs : Sb s) : Calls Try.prog 27 #[.agg (cxa (.slice va vn vc) s.cur s.m), .agg (cxa (.slice va' vn' vc') s.cur s.m)] W fun e w' => e = .returned (.bool true) ∧ Below W.heap.size W w' :=
  scross_yes va vn vc F va' vn' vc' F' s.cur s.m hs.m W h.ez h'.ez h.fl h'.fl (h.fd.trans h'.fd.symm) (by have h1 := hs.e; rw [← h.fd, List.length_map, h.fl] at h1; omega)
theorem sb_undo {D : List Nd} {now : Int} {m : List Int} (hD : D.length ≤ 1048576) (he : ∀ i, (at' D i).ed.length ≤ 1048576) : Sb ((Wk.new D now m).up now.toNat) := ⟨by rw [Wk.up_len]; exact hD, by
  show ([] ++ inv (at' D now.toNat).ed).length ≤ _
  rw [List.nil_append, inv_length]
  have := he now.toNat
  omega, Wk.up_mlen _ _⟩
theorem sb_redo {D : List Nd} {now : Int} {m : List Int} {x : Nat} (hD : D.length ≤ 1048576) (he : ∀ i, (at' D i).ed.length ≤ 1048576) : Sb ((Wk.new D now m).down x) := ⟨by rw [Wk.down_len]; exact hD, by
  show ([] ++ (at' D x).ed).length ≤ _
  rw [List.nil_append]
  have := he x
  omega, Wk.down_mlen _ _⟩
theorem folU_mlen : ∀ (U : List Nat) (s : Wk), s.m.length = 27 → (U.foldl Wk.up s).m.length = 27
  | [], _, h => h
  | x :: U, s, _ => folU_mlen U (s.up x) (s.up_mlen x)
theorem folD_mlen : ∀ (U : List Nat) (s : Wk), s.m.length = 27 → (U.foldl Wk.down s).m.length = 27
  | [], _, h => h
  | x :: U, s, _ => folD_mlen U (s.down x) (s.down_mlen x)
theorem sb_go {D : List Nd} {now tt : Int} {m : List Int} (hr : Right D now) (ht : 0 ≤ tt ∧ tt < (D.length : Int)) (hm : m.length = 27) (he : ∀ i, (at' D i).ed.length ≤ 1048576) : Sb ((Wk.new D now m).go (pathU D now.toNat tt.toNat) (pathD D now.toNat tt.toNat)) := by
  obtain ⟨-, -, l1, l2, -⟩ := path_in (i := now.toNat) (j := tt.toNat) hr.low hr.now_lt (by omega)
  have hsz := hr.sz.1
  have h1 := foldU_el (q := 1048576) (pathU D now.toNat tt.toNat) (Wk.new D now m) he
  have h2 := foldD_el (q := 1048576) (pathD D now.toNat tt.toNat) ((pathU D now.toNat tt.toNat).foldl Wk.up (Wk.new D now m)) (fun i => by rw [ed_sk (foldU_sk _ _ i)]; exact he i)
  have h3 : (pathU D now.toNat tt.toNat).length * 1048576 ≤ 4097 * 1048576 := Nat.mul_le_mul_right _ (by omega)
  have h4 : (pathD D now.toNat tt.toNat).length * 1048576 ≤ 4097 * 1048576 := Nat.mul_le_mul_right _ (by omega)
  have h5 : (Wk.new D now m).E.length = 0 := rfl
  refine ⟨?_, ?_, ?_⟩
  · unfold Wk.go; rw [foldD_len, foldU_len]; show D.length ≤ _; omega
  · unfold Wk.go; omega
  · unfold Wk.go; exact folD_mlen _ _ (folU_mlen _ _ hm)
theorem goE_ok {D : List Nd} {now tt : Int} {m : List Int} (h : goE D now tt m = 0) : Right D now ∧ 0 ≤ tt ∧ tt < (D.length : Int) := by
  unfold goE at h
  by_cases h1 : Right D now
  · rw [ti_t h1] at h
    by_cases h2 : MOk m
    · rw [ti_t h2] at h
      by_cases h3 : tt < 0
      · rw [ti_t h3] at h; exact absurd h (by decide)
      · rw [ti_f h3] at h
        by_cases h4 : (D.length : Int) ≤ tt
        · rw [ti_t h4] at h; exact absurd h (by decide)
        · exact ⟨h1, by omega, by omega⟩
    · rw [ti_f h2] at h; exact absurd h (by decide)
  · rw [ti_f h1] at h; exact absurd h (by decide)
set_option maxHeartbeats 32000000 in
set_option linter.unusedSimpArgs false in
theorem groveCrosses_walk' (Z : List Int) (hZ : Z.length = 27) (HZ50 : Hid (∀ w, (zeroValue 50).run Try.prog w = .ok (.agg (cxa (.slice none 0 0) 0 Z)) w)) (ao : Option Addr) (n c : Nat) (now tt : Int) (G : List Nr) (m : List Int) (w : World) (HG : Hid (Grz w ao G)) (hn : G.length = n) (hc : n ≤ c) (hm : Mw m) (hbig : ∀ d ∈ G.map Nr.d, nsum d.ed + osum d.ed + d.ed.length ≤ 1048576) (hn9 : n ≤ 1048576) :
    Calls Try.prog 5 #[.agg #[.slice ao n c, .int .i64 now], .int .i64 tt, .agg (mk m)] w fun e w' => e = .returned (.bool true) ∧ Below w.heap.size w w' := by
  have hml := hm.len
  have he : ∀ i, (at' (G.map Nr.d) i).ed.length ≤ 1048576 := fun i => by
    by_cases hi : i < (G.map Nr.d).length
    · have := hbig _ (List.mem_of_getElem? (at'_some hi)); omega
    · have e : at' (G.map Nr.d) i = zn := by unfold at'; rw [List.getD_eq_getElem?_getD, List.getElem?_eq_none (by omega)]; rfl
      rw [e]; simp [zn]
  have hD : (G.map Nr.d).length ≤ 1048576 := by rw [List.length_map]; omega
  have HE9 : Hid (∀ d ∈ G.map Nr.d, d.ed.length ≤ 1048576) := fun d hd => by have := hbig d hd; omega
  have C21 := fun W (hW : Below w.heap.size w W) => rundo_any ao n c now G m W (HG.out.keep hW) hn hm
  have C22 := fun W (hW : Below w.heap.size w W) => rredo_any ao n c now G m W (HG.out.keep hW) hn hm
  have C23 := fun W (hW : Below w.heap.size w W) => rgo_any ao n c now tt G m W (HG.out.keep hW) hn hm he
  have C24 := fun W (hW : Below w.heap.size w W) => undo_q ao n c now G m W (HG.out.keep hW) hn hc hm
  have C25 := fun W (hW : Below w.heap.size w W) => redo_q ao n c now G m W (HG.out.keep hW) hn hc hm
  have C26 := fun W (hW : Below w.heap.size w W) => go_q ao n c now tt G m W (HG.out.keep hW) hn hc hm HE9
  have S1 : Sb (crW (undE (G.map Nr.d) now m) ((Wk.new (G.map Nr.d) now m).up now.toNat)) := sb_crw (sb_undo hD he)
  have S2 : Sb (crW (redE (G.map Nr.d) now m) ((Wk.new (G.map Nr.d) now m).down (at' (G.map Nr.d) now.toNat).nxt.toNat)) := sb_crw (sb_redo hD he)
  have S3 : Sb (crW (goE (G.map Nr.d) now tt m) ((Wk.new (G.map Nr.d) now m).go (pathU (G.map Nr.d) now.toNat tt.toNat) (pathD (G.map Nr.d) now.toNat tt.toNat))) := by
    by_cases hz : goE (G.map Nr.d) now tt m = 0
    · obtain ⟨h1, h2, h3⟩ := goE_ok hz
      exact sb_crw (sb_go h1 ⟨h2, h3⟩ hml he)
    · unfold crW; rw [if_neg hz]; exact ⟨by simp, by simp, rfl⟩
  obtain ⟨s1, hs1⟩ : ∃ s, crW (undE (G.map Nr.d) now m) ((Wk.new (G.map Nr.d) now m).up now.toNat) = s := ⟨_, rfl⟩
  obtain ⟨s2, hs2⟩ : ∃ s, crW (redE (G.map Nr.d) now m) ((Wk.new (G.map Nr.d) now m).down (at' (G.map Nr.d) now.toNat).nxt.toNat) = s := ⟨_, rfl⟩
  obtain ⟨s3, hs3⟩ : ∃ s, crW (goE (G.map Nr.d) now tt m) ((Wk.new (G.map Nr.d) now m).go (pathU (G.map Nr.d) now.toNat tt.toNat) (pathD (G.map Nr.d) now.toNat tt.toNat)) = s := ⟨_, rfl⟩
  rw [hs1] at C21 C24 S1
  rw [hs2] at C22 C25 S2
  rw [hs3] at C23 C26 S3
  generalize undE (G.map Nr.d) now m = z1 at *
  generalize redE (G.map Nr.d) now m = z2 at *
  generalize goE (G.map Nr.d) now tt m = z3 at *
  have D1 := mkH C21
  have D2 := mkH C22
  have D3 := mkH C23
  have D4 := mkH C24
  have D5 := mkH C25
  have D6 := mkH C26
  have HS1 := mkH S1
  have HS2 := mkH S2
  have HS3 := mkH S3
  clear C21 C22 C23 C24 C25 C26 S1 S2 S3 hs1 hs2 hs3 hD he HE9 hbig hn9 hn hc hm
  obtain ⟨W1, hW1⟩ : ∃ x, (w.alloc (.cells #[.slice ao n c, .int .i64 now] 24)).alloc (.cells (mk m) 41) = x := ⟨_, rfl⟩
  obtain ⟨b, hb⟩ : ∃ b, w.heap.size = b := ⟨_, rfl⟩
  have L1 : Hid (Below w.heap.size w W1) := by unfold Hid; rw [← hW1]; exact bAlloc (bAlloc (Below.refl _ _) _) _
  have K1 : Hid (Blk W1 b 24 #[.slice ao n c, .int .i64 now]) := by unfold Hid; rw [← hW1, ← hb]; exact (Blk.new w 24 _).keep (bAlloc (Below.refl _ _) _)
  have M1 : Hid (Blk W1 (b + 1) 41 (mk m)) := by
    unfold Hid
    rw [← hW1, ← hb]
    have := Blk.new (w.alloc (.cells #[.slice ao n c, .int .i64 now] 24)) 41 (mk m)
    rwa [World.size_alloc] at this
  go_enter Try.func5, Try.ntmps5
  go_wp2_with fail
  clear hW1 hb
  refine (awake_any _).mono ?_
  rintro e w2 ⟨rfl, hb2⟩
  have L2 := mkH (bT L1.out hb2)
  have K2 := mkH (K1.out.keep hb2)
  have M2 := mkH (M1.out.keep hb2)
  clear hb2 L1 K1 M1
  dsimp only
  have a1 : w2.cell? ⟨b, 0, none⟩ = some (.slice ao n c) := K2.out.cell rfl
  have b1 : w2.cell? ⟨b, 1, none⟩ = some (.int .i64 now) := K2.out.cell rfl
  go_wp2_with (first | refine wl_ld41 (B := b + 1) (o := 0) (.tmp 5) rfl rfl rfl hml (range_blk M2.out) ?_ | fail)
  refine (D1.out w2 L2.out).mono ?_
  rintro e w3 ⟨p1, n1, k1, H1, va1, vn1, vc1, F1, rfl, g1, l1, hk1, d1, z1e, f1, fc1, e1, mw1, -, hb⟩
  have L3 := mkH (bT L2.out hb)
  have K3 := mkH (K2.out.keep hb)
  have M3 := mkH (M2.out.keep hb)
  have hl := mw1.len
  clear hb L2 K2 M2 a1 b1 D1
  dsimp only
  obtain ⟨X1, hX1⟩ : ∃ x, w3.alloc (.cells #[.slice none 0 0, .int .i64 0] 24) = x := ⟨_, rfl⟩
  obtain ⟨q1, hq1⟩ : ∃ x, w3.heap.size = x := ⟨_, rfl⟩
  obtain ⟨X2, hX2⟩ : ∃ x, X1.alloc (.cells (cxa (.slice none 0 0) 0 Z) 50) = x := ⟨_, rfl⟩
  obtain ⟨r1, hr1⟩ : ∃ x, X1.heap.size = x := ⟨_, rfl⟩
  obtain ⟨y1, y2, y3, y4, y5, y6, y7, y8⟩ := two_boxes (ao := p1) (va := va1) (n := n1) (k := k1) (vn := vn1) (vc := vc1) (now := s1.now) (cu := s1.cur) (m := s1.m) hZ hl hX1 hX2 hq1 hr1
  have T50 := mkH y4
  have Q1 : Hid (Bq ((((X2.setCell ⟨q1, 0, none⟩ (.slice p1 n1 k1)).setCell ⟨q1, 1, none⟩ (.int .i64 s1.now)).setCells r1 0 (cx (.slice va1 vn1 vc1) s1.cur s1.m))) q1 r1 s1 p1 n1 k1 H1 va1 vn1 vc1 F1) := ⟨y5, y6, g1.keep y8, l1, d1, z1e.keep y8, f1, e1⟩
  have Y8 := mkH y8
  have hz50 := HZ50.out
  clear y4 y5 y6 y7 y8 g1 l1 hk1 d1 z1e f1 fc1 e1 mw1
  go_upto_region 4 with (first | refine wl_st50 (B := r1) (o := 0) (.tmp 8) (.tmp 32) rfl rfl rfl rfl hl T50.out ?_ | fail)
  clear y1 y2 y3 hX1 hX2 hq1 hr1 hz50 T50 hl
  generalize ((X2.setCell ⟨q1, 0, none⟩ (.slice p1 n1 k1)).setCell ⟨q1, 1, none⟩ (.int .i64 s1.now)).setCells r1 0 (cx (.slice va1 vn1 vc1) s1.cur s1.m) = w4 at *
  have L4 := mkH (bT L3.out Y8.out)
  have K4 := mkH (K3.out.keep Y8.out)
  have M4 := mkH (M3.out.keep Y8.out)
  clear Y8 L3 K3 M3
  have a2 : w4.cell? ⟨b, 0, none⟩ = some (.slice ao n c) := K4.out.cell rfl
  have b2 : w4.cell? ⟨b, 1, none⟩ = some (.int .i64 now) := K4.out.cell rfl
  go_wp2_with (first | refine wl_ld41 (B := b + 1) (o := 0) (.tmp 5) rfl rfl rfl hml (range_blk M4.out) ?_ | fail)
  refine (D2.out w4 L4.out).mono ?_
  rintro e w5 ⟨p2, n2, k2, H2, va2, vn2, vc2, F2, rfl, g1, l1, hk1, d1, z1e, f1, fc1, e1, mw1, -, hb⟩
  have L5 := mkH (bT L4.out hb)
  have K5 := mkH (K4.out.keep hb)
  have M5 := mkH (M4.out.keep hb)
  have hl := mw1.len
  have QQ1 := mkH (Q1.out.keep hb)
  clear Q1
  clear hb L4 K4 M4 a2 b2 D2
  dsimp only
  obtain ⟨X1, hX1⟩ : ∃ x, w5.alloc (.cells #[.slice none 0 0, .int .i64 0] 24) = x := ⟨_, rfl⟩
  obtain ⟨q2, hq2⟩ : ∃ x, w5.heap.size = x := ⟨_, rfl⟩
  obtain ⟨X2, hX2⟩ : ∃ x, X1.alloc (.cells (cxa (.slice none 0 0) 0 Z) 50) = x := ⟨_, rfl⟩
  obtain ⟨r2, hr2⟩ : ∃ x, X1.heap.size = x := ⟨_, rfl⟩
  obtain ⟨y1, y2, y3, y4, y5, y6, y7, y8⟩ := two_boxes (ao := p2) (va := va2) (n := n2) (k := k2) (vn := vn2) (vc := vc2) (now := s2.now) (cu := s2.cur) (m := s2.m) hZ hl hX1 hX2 hq2 hr2
  have T50 := mkH y4
  have Q2 : Hid (Bq ((((X2.setCell ⟨q2, 0, none⟩ (.slice p2 n2 k2)).setCell ⟨q2, 1, none⟩ (.int .i64 s2.now)).setCells r2 0 (cx (.slice va2 vn2 vc2) s2.cur s2.m))) q2 r2 s2 p2 n2 k2 H2 va2 vn2 vc2 F2) := ⟨y5, y6, g1.keep y8, l1, d1, z1e.keep y8, f1, e1⟩
  have Y8 := mkH y8
  have hz50 := HZ50.out
  clear y4 y5 y6 y7 y8 g1 l1 hk1 d1 z1e f1 fc1 e1 mw1
  go_upto_region 5 with (first | refine wl_st50 (B := r2) (o := 0) (.tmp 11) (.tmp 39) rfl rfl rfl rfl hl T50.out ?_ | fail)
  clear y1 y2 y3 hX1 hX2 hq2 hr2 hz50 T50 hl
  generalize ((X2.setCell ⟨q2, 0, none⟩ (.slice p2 n2 k2)).setCell ⟨q2, 1, none⟩ (.int .i64 s2.now)).setCells r2 0 (cx (.slice va2 vn2 vc2) s2.cur s2.m) = w6 at *
  have L6 := mkH (bT L5.out Y8.out)
  have K6 := mkH (K5.out.keep Y8.out)
  have M6 := mkH (M5.out.keep Y8.out)
  have Q1 := mkH (QQ1.out.keep Y8.out)
  clear QQ1
  clear Y8 L5 K5 M5
  have a3 : w6.cell? ⟨b, 0, none⟩ = some (.slice ao n c) := K6.out.cell rfl
  have b3 : w6.cell? ⟨b, 1, none⟩ = some (.int .i64 now) := K6.out.cell rfl
  go_wp2_with (first | refine wl_ld41 (B := b + 1) (o := 0) (.tmp 5) rfl rfl rfl hml (range_blk M6.out) ?_ | fail)
  refine (D3.out w6 L6.out).mono ?_
  rintro e w7 ⟨p3, n3, k3, H3, va3, vn3, vc3, F3, rfl, g1, l1, hk1, d1, z1e, f1, fc1, e1, mw1, -, hb⟩
  have L7 := mkH (bT L6.out hb)
  have K7 := mkH (K6.out.keep hb)
  have M7 := mkH (M6.out.keep hb)
  have hl := mw1.len
  have QQ1 := mkH (Q1.out.keep hb)
  clear Q1
  have QQ2 := mkH (Q2.out.keep hb)
  clear Q2
  clear hb L6 K6 M6 a3 b3 D3
  dsimp only
  obtain ⟨X1, hX1⟩ : ∃ x, w7.alloc (.cells #[.slice none 0 0, .int .i64 0] 24) = x := ⟨_, rfl⟩
  obtain ⟨q3, hq3⟩ : ∃ x, w7.heap.size = x := ⟨_, rfl⟩
  obtain ⟨X2, hX2⟩ : ∃ x, X1.alloc (.cells (cxa (.slice none 0 0) 0 Z) 50) = x := ⟨_, rfl⟩
  obtain ⟨r3, hr3⟩ : ∃ x, X1.heap.size = x := ⟨_, rfl⟩
  obtain ⟨y1, y2, y3, y4, y5, y6, y7, y8⟩ := two_boxes (ao := p3) (va := va3) (n := n3) (k := k3) (vn := vn3) (vc := vc3) (now := s3.now) (cu := s3.cur) (m := s3.m) hZ hl hX1 hX2 hq3 hr3
  have T50 := mkH y4
  have Q3 : Hid (Bq ((((X2.setCell ⟨q3, 0, none⟩ (.slice p3 n3 k3)).setCell ⟨q3, 1, none⟩ (.int .i64 s3.now)).setCells r3 0 (cx (.slice va3 vn3 vc3) s3.cur s3.m))) q3 r3 s3 p3 n3 k3 H3 va3 vn3 vc3 F3) := ⟨y5, y6, g1.keep y8, l1, d1, z1e.keep y8, f1, e1⟩
  have Y8 := mkH y8
  have hz50 := HZ50.out
  clear y4 y5 y6 y7 y8 g1 l1 hk1 d1 z1e f1 fc1 e1 mw1
  go_upto_region 6 with (first | refine wl_st50 (B := r3) (o := 0) (.tmp 14) (.tmp 47) rfl rfl rfl rfl hl T50.out ?_ | fail)
  clear y1 y2 y3 hX1 hX2 hq3 hr3 hz50 T50 hl
  generalize ((X2.setCell ⟨q3, 0, none⟩ (.slice p3 n3 k3)).setCell ⟨q3, 1, none⟩ (.int .i64 s3.now)).setCells r3 0 (cx (.slice va3 vn3 vc3) s3.cur s3.m) = w8 at *
  have L8 := mkH (bT L7.out Y8.out)
  have K8 := mkH (K7.out.keep Y8.out)
  have M8 := mkH (M7.out.keep Y8.out)
  have Q1 := mkH (QQ1.out.keep Y8.out)
  clear QQ1
  have Q2 := mkH (QQ2.out.keep Y8.out)
  clear QQ2
  clear Y8 L7 K7 M7
  have a4 : w8.cell? ⟨b, 0, none⟩ = some (.slice ao n c) := K8.out.cell rfl
  have b4 : w8.cell? ⟨b, 1, none⟩ = some (.int .i64 now) := K8.out.cell rfl
  go_wp2_with (first | refine wl_ld41 (B := b + 1) (o := 0) (.tmp 5) rfl rfl rfl hml (range_blk M8.out) ?_ | fail)
  refine (D4.out w8 L8.out).mono ?_
  rintro e w9 ⟨p4, n4, k4, H4, va4, vn4, vc4, F4, rfl, g1, l1, hk1, d1, z1e, f1, fc1, e1, mw1, -, hb⟩
  have L9 := mkH (bT L8.out hb)
  have K9 := mkH (K8.out.keep hb)
  have M9 := mkH (M8.out.keep hb)
  have hl := mw1.len
  have QQ1 := mkH (Q1.out.keep hb)
  clear Q1
  have QQ2 := mkH (Q2.out.keep hb)
  clear Q2
  have QQ3 := mkH (Q3.out.keep hb)
  clear Q3
  clear hb L8 K8 M8 a4 b4 D4
  dsimp only
  obtain ⟨X1, hX1⟩ : ∃ x, w9.alloc (.cells #[.slice none 0 0, .int .i64 0] 24) = x := ⟨_, rfl⟩
  obtain ⟨q4, hq4⟩ : ∃ x, w9.heap.size = x := ⟨_, rfl⟩
  obtain ⟨X2, hX2⟩ : ∃ x, X1.alloc (.cells (cxa (.slice none 0 0) 0 Z) 50) = x := ⟨_, rfl⟩
  obtain ⟨r4, hr4⟩ : ∃ x, X1.heap.size = x := ⟨_, rfl⟩
  obtain ⟨y1, y2, y3, y4, y5, y6, y7, y8⟩ := two_boxes (ao := p4) (va := va4) (n := n4) (k := k4) (vn := vn4) (vc := vc4) (now := s1.now) (cu := s1.cur) (m := s1.m) hZ hl hX1 hX2 hq4 hr4
  have T50 := mkH y4
  have Q4 : Hid (Bq ((((X2.setCell ⟨q4, 0, none⟩ (.slice p4 n4 k4)).setCell ⟨q4, 1, none⟩ (.int .i64 s1.now)).setCells r4 0 (cx (.slice va4 vn4 vc4) s1.cur s1.m))) q4 r4 s1 p4 n4 k4 H4 va4 vn4 vc4 F4) := ⟨y5, y6, g1.keep y8, l1, d1, z1e.keep y8, f1, e1⟩
  have Y8 := mkH y8
  have hz50 := HZ50.out
  clear y4 y5 y6 y7 y8 g1 l1 hk1 d1 z1e f1 fc1 e1 mw1
  go_upto_region 7 with (first | refine wl_st50 (B := r4) (o := 0) (.tmp 17) (.tmp 54) rfl rfl rfl rfl hl T50.out ?_ | fail)
  clear y1 y2 y3 hX1 hX2 hq4 hr4 hz50 T50 hl
  generalize ((X2.setCell ⟨q4, 0, none⟩ (.slice p4 n4 k4)).setCell ⟨q4, 1, none⟩ (.int .i64 s1.now)).setCells r4 0 (cx (.slice va4 vn4 vc4) s1.cur s1.m) = w10 at *
  have L10 := mkH (bT L9.out Y8.out)
  have K10 := mkH (K9.out.keep Y8.out)
  have M10 := mkH (M9.out.keep Y8.out)
  have Q1 := mkH (QQ1.out.keep Y8.out)
  clear QQ1
  have Q2 := mkH (QQ2.out.keep Y8.out)
  clear QQ2
  have Q3 := mkH (QQ3.out.keep Y8.out)
  clear QQ3
  clear Y8 L9 K9 M9
  have a5 : w10.cell? ⟨b, 0, none⟩ = some (.slice ao n c) := K10.out.cell rfl
  have b5 : w10.cell? ⟨b, 1, none⟩ = some (.int .i64 now) := K10.out.cell rfl
  go_wp2_with (first | refine wl_ld41 (B := b + 1) (o := 0) (.tmp 5) rfl rfl rfl hml (range_blk M10.out) ?_ | fail)
  refine (D5.out w10 L10.out).mono ?_
  rintro e w11 ⟨p5, n5, k5, H5, va5, vn5, vc5, F5, rfl, g1, l1, hk1, d1, z1e, f1, fc1, e1, mw1, -, hb⟩
  have L11 := mkH (bT L10.out hb)
  have K11 := mkH (K10.out.keep hb)
  have M11 := mkH (M10.out.keep hb)
  have hl := mw1.len
  have QQ1 := mkH (Q1.out.keep hb)
  clear Q1
  have QQ2 := mkH (Q2.out.keep hb)
  clear Q2
  have QQ3 := mkH (Q3.out.keep hb)
  clear Q3
  have QQ4 := mkH (Q4.out.keep hb)
  clear Q4
  clear hb L10 K10 M10 a5 b5 D5
  dsimp only
  obtain ⟨X1, hX1⟩ : ∃ x, w11.alloc (.cells #[.slice none 0 0, .int .i64 0] 24) = x := ⟨_, rfl⟩
  obtain ⟨q5, hq5⟩ : ∃ x, w11.heap.size = x := ⟨_, rfl⟩
  obtain ⟨X2, hX2⟩ : ∃ x, X1.alloc (.cells (cxa (.slice none 0 0) 0 Z) 50) = x := ⟨_, rfl⟩
  obtain ⟨r5, hr5⟩ : ∃ x, X1.heap.size = x := ⟨_, rfl⟩
  obtain ⟨y1, y2, y3, y4, y5, y6, y7, y8⟩ := two_boxes (ao := p5) (va := va5) (n := n5) (k := k5) (vn := vn5) (vc := vc5) (now := s2.now) (cu := s2.cur) (m := s2.m) hZ hl hX1 hX2 hq5 hr5
  have T50 := mkH y4
  have Q5 : Hid (Bq ((((X2.setCell ⟨q5, 0, none⟩ (.slice p5 n5 k5)).setCell ⟨q5, 1, none⟩ (.int .i64 s2.now)).setCells r5 0 (cx (.slice va5 vn5 vc5) s2.cur s2.m))) q5 r5 s2 p5 n5 k5 H5 va5 vn5 vc5 F5) := ⟨y5, y6, g1.keep y8, l1, d1, z1e.keep y8, f1, e1⟩
  have Y8 := mkH y8
  have hz50 := HZ50.out
  clear y4 y5 y6 y7 y8 g1 l1 hk1 d1 z1e f1 fc1 e1 mw1
  go_upto_region 8 with (first | refine wl_st50 (B := r5) (o := 0) (.tmp 20) (.tmp 61) rfl rfl rfl rfl hl T50.out ?_ | fail)
  clear y1 y2 y3 hX1 hX2 hq5 hr5 hz50 T50 hl
  generalize ((X2.setCell ⟨q5, 0, none⟩ (.slice p5 n5 k5)).setCell ⟨q5, 1, none⟩ (.int .i64 s2.now)).setCells r5 0 (cx (.slice va5 vn5 vc5) s2.cur s2.m) = w12 at *
  have L12 := mkH (bT L11.out Y8.out)
  have K12 := mkH (K11.out.keep Y8.out)
  have M12 := mkH (M11.out.keep Y8.out)
  have Q1 := mkH (QQ1.out.keep Y8.out)
  clear QQ1
  have Q2 := mkH (QQ2.out.keep Y8.out)
  clear QQ2
  have Q3 := mkH (QQ3.out.keep Y8.out)
  clear QQ3
  have Q4 := mkH (QQ4.out.keep Y8.out)
  clear QQ4
  clear Y8 L11 K11 M11
  have a6 : w12.cell? ⟨b, 0, none⟩ = some (.slice ao n c) := K12.out.cell rfl
  have b6 : w12.cell? ⟨b, 1, none⟩ = some (.int .i64 now) := K12.out.cell rfl
  go_wp2_with (first | refine wl_ld41 (B := b + 1) (o := 0) (.tmp 5) rfl rfl rfl hml (range_blk M12.out) ?_ | fail)
  refine (D6.out w12 L12.out).mono ?_
  rintro e w13 ⟨p6, n6, k6, H6, va6, vn6, vc6, F6, rfl, g1, l1, hk1, d1, z1e, f1, fc1, e1, mw1, -, hb⟩
  have L13 := mkH (bT L12.out hb)
  have K13 := mkH (K12.out.keep hb)
  have M13 := mkH (M12.out.keep hb)
  have hl := mw1.len
  have QQ1 := mkH (Q1.out.keep hb)
  clear Q1
  have QQ2 := mkH (Q2.out.keep hb)
  clear Q2
  have QQ3 := mkH (Q3.out.keep hb)
  clear Q3
  have QQ4 := mkH (Q4.out.keep hb)
  clear Q4
  have QQ5 := mkH (Q5.out.keep hb)
  clear Q5
  clear hb L12 K12 M12 a6 b6 D6
  dsimp only
  obtain ⟨X1, hX1⟩ : ∃ x, w13.alloc (.cells #[.slice none 0 0, .int .i64 0] 24) = x := ⟨_, rfl⟩
  obtain ⟨q6, hq6⟩ : ∃ x, w13.heap.size = x := ⟨_, rfl⟩
  obtain ⟨X2, hX2⟩ : ∃ x, X1.alloc (.cells (cxa (.slice none 0 0) 0 Z) 50) = x := ⟨_, rfl⟩
  obtain ⟨r6, hr6⟩ : ∃ x, X1.heap.size = x := ⟨_, rfl⟩
  obtain ⟨y1, y2, y3, y4, y5, y6, y7, y8⟩ := two_boxes (ao := p6) (va := va6) (n := n6) (k := k6) (vn := vn6) (vc := vc6) (now := s3.now) (cu := s3.cur) (m := s3.m) hZ hl hX1 hX2 hq6 hr6
  have T50 := mkH y4
  have Q6 : Hid (Bq ((((X2.setCell ⟨q6, 0, none⟩ (.slice p6 n6 k6)).setCell ⟨q6, 1, none⟩ (.int .i64 s3.now)).setCells r6 0 (cx (.slice va6 vn6 vc6) s3.cur s3.m))) q6 r6 s3 p6 n6 k6 H6 va6 vn6 vc6 F6) := ⟨y5, y6, g1.keep y8, l1, d1, z1e.keep y8, f1, e1⟩
  have Y8 := mkH y8
  have hz50 := HZ50.out
  clear y4 y5 y6 y7 y8 g1 l1 hk1 d1 z1e f1 fc1 e1 mw1
  go_upto_region 9 with (first | refine wl_st50 (B := r6) (o := 0) (.tmp 23) (.tmp 69) rfl rfl rfl rfl hl T50.out ?_ | fail)
  clear y1 y2 y3 hX1 hX2 hq6 hr6 hz50 T50 hl
  generalize ((X2.setCell ⟨q6, 0, none⟩ (.slice p6 n6 k6)).setCell ⟨q6, 1, none⟩ (.int .i64 s3.now)).setCells r6 0 (cx (.slice va6 vn6 vc6) s3.cur s3.m) = w14 at *
  have L14 := mkH (bT L13.out Y8.out)
  have K14 := mkH (K13.out.keep Y8.out)
  have M14 := mkH (M13.out.keep Y8.out)
  have Q1 := mkH (QQ1.out.keep Y8.out)
  clear QQ1
  have Q2 := mkH (QQ2.out.keep Y8.out)
  clear QQ2
  have Q3 := mkH (QQ3.out.keep Y8.out)
  clear QQ3
  have Q4 := mkH (QQ4.out.keep Y8.out)
  clear QQ4
  have Q5 := mkH (QQ5.out.keep Y8.out)
  clear QQ5
  clear Y8 L13 K13 M13
  go_upto_region 11 with fail
  have x1 : w14.cell? ⟨q1, 0, none⟩ = some (.slice p1 n1 k1) := Q1.out.b24.cell rfl
  have y1 : w14.cell? ⟨q1, 1, none⟩ = some (.int .i64 s1.now) := Q1.out.b24.cell rfl
  have x2 : w14.cell? ⟨q2, 0, none⟩ = some (.slice p2 n2 k2) := Q2.out.b24.cell rfl
  have y2 : w14.cell? ⟨q2, 1, none⟩ = some (.int .i64 s2.now) := Q2.out.b24.cell rfl
  have x3 : w14.cell? ⟨q3, 0, none⟩ = some (.slice p3 n3 k3) := Q3.out.b24.cell rfl
  have y3 : w14.cell? ⟨q3, 1, none⟩ = some (.int .i64 s3.now) := Q3.out.b24.cell rfl
  have x4 : w14.cell? ⟨q4, 0, none⟩ = some (.slice p4 n4 k4) := Q4.out.b24.cell rfl
  have y4 : w14.cell? ⟨q4, 1, none⟩ = some (.int .i64 s1.now) := Q4.out.b24.cell rfl
  have x5 : w14.cell? ⟨q5, 0, none⟩ = some (.slice p5 n5 k5) := Q5.out.b24.cell rfl
  have y5 : w14.cell? ⟨q5, 1, none⟩ = some (.int .i64 s2.now) := Q5.out.b24.cell rfl
  have x6 : w14.cell? ⟨q6, 0, none⟩ = some (.slice p6 n6 k6) := Q6.out.b24.cell rfl
  have y6 : w14.cell? ⟨q6, 1, none⟩ = some (.int .i64 s3.now) := Q6.out.b24.cell rfl
  go_wp2_with fail
  refine (bq_g Q4.out Q1.out HS1.out).mono ?_
  rintro e w20 ⟨rfl, hb⟩
  have L20 := mkH (bT L14.out hb)
  replace Q1 := mkH (Q1.out.keep hb)
  replace x1 := cell_keep x1 hb
  replace y1 := cell_keep y1 hb
  replace Q2 := mkH (Q2.out.keep hb)
  replace x2 := cell_keep x2 hb
  replace y2 := cell_keep y2 hb
  replace Q3 := mkH (Q3.out.keep hb)
  replace x3 := cell_keep x3 hb
  replace y3 := cell_keep y3 hb
  replace Q4 := mkH (Q4.out.keep hb)
  replace x4 := cell_keep x4 hb
  replace y4 := cell_keep y4 hb
  replace Q5 := mkH (Q5.out.keep hb)
  replace x5 := cell_keep x5 hb
  replace y5 := cell_keep y5 hb
  replace Q6 := mkH (Q6.out.keep hb)
  replace x6 := cell_keep x6 hb
  replace y6 := cell_keep y6 hb
  clear hb L14
  dsimp only
  go_wp2_with (first | refine wl_ldg ty50 (.tmp 17) (by first | rfl | simp [Region.wanted, yielded]) rfl rfl (cx (.slice va4 vn4 vc4) s1.cur s1.m) (cx_len HS1.out.m) (range_blk Q4.out.b50) ?_ | refine wl_ldg ty50 (.tmp 8) (by first | rfl | simp [Region.wanted, yielded]) rfl rfl (cx (.slice va1 vn1 vc1) s1.cur s1.m) (cx_len HS1.out.m) (range_blk Q1.out.b50) ?_ | fail)
  go_at_call 27
  refine (bq_c Q4.out Q1.out HS1.out).mono ?_
  rintro e w21 ⟨rfl, hb⟩
  have L21 := mkH (bT L20.out hb)
  replace Q1 := mkH (Q1.out.keep hb)
  replace x1 := cell_keep x1 hb
  replace y1 := cell_keep y1 hb
  replace Q2 := mkH (Q2.out.keep hb)
  replace x2 := cell_keep x2 hb
  replace y2 := cell_keep y2 hb
  replace Q3 := mkH (Q3.out.keep hb)
  replace x3 := cell_keep x3 hb
  replace y3 := cell_keep y3 hb
  replace Q4 := mkH (Q4.out.keep hb)
  replace x4 := cell_keep x4 hb
  replace y4 := cell_keep y4 hb
  replace Q5 := mkH (Q5.out.keep hb)
  replace x5 := cell_keep x5 hb
  replace y5 := cell_keep y5 hb
  replace Q6 := mkH (Q6.out.keep hb)
  replace x6 := cell_keep x6 hb
  replace y6 := cell_keep y6 hb
  clear hb L20
  dsimp only
  go_wp2_with fail
  go_at_call 11
  refine (bq_g Q5.out Q2.out HS2.out).mono ?_
  rintro e w22 ⟨rfl, hb⟩
  have L22 := mkH (bT L21.out hb)
  replace Q1 := mkH (Q1.out.keep hb)
  replace x1 := cell_keep x1 hb
  replace y1 := cell_keep y1 hb
  replace Q2 := mkH (Q2.out.keep hb)
  replace x2 := cell_keep x2 hb
  replace y2 := cell_keep y2 hb
  replace Q3 := mkH (Q3.out.keep hb)
  replace x3 := cell_keep x3 hb
  replace y3 := cell_keep y3 hb
  replace Q4 := mkH (Q4.out.keep hb)
  replace x4 := cell_keep x4 hb
  replace y4 := cell_keep y4 hb
  replace Q5 := mkH (Q5.out.keep hb)
  replace x5 := cell_keep x5 hb
  replace y5 := cell_keep y5 hb
  replace Q6 := mkH (Q6.out.keep hb)
  replace x6 := cell_keep x6 hb
  replace y6 := cell_keep y6 hb
  clear hb L21
  dsimp only
  go_wp2_with (first | refine wl_ldg ty50 (.tmp 20) (by first | rfl | simp [Region.wanted, yielded]) rfl rfl (cx (.slice va5 vn5 vc5) s2.cur s2.m) (cx_len HS2.out.m) (range_blk Q5.out.b50) ?_ | refine wl_ldg ty50 (.tmp 11) (by first | rfl | simp [Region.wanted, yielded]) rfl rfl (cx (.slice va2 vn2 vc2) s2.cur s2.m) (cx_len HS2.out.m) (range_blk Q2.out.b50) ?_ | fail)
  go_at_call 27
  refine (bq_c Q5.out Q2.out HS2.out).mono ?_
  rintro e w23 ⟨rfl, hb⟩
  have L23 := mkH (bT L22.out hb)
  replace Q1 := mkH (Q1.out.keep hb)
  replace x1 := cell_keep x1 hb
  replace y1 := cell_keep y1 hb
  replace Q2 := mkH (Q2.out.keep hb)
  replace x2 := cell_keep x2 hb
  replace y2 := cell_keep y2 hb
  replace Q3 := mkH (Q3.out.keep hb)
  replace x3 := cell_keep x3 hb
  replace y3 := cell_keep y3 hb
  replace Q4 := mkH (Q4.out.keep hb)
  replace x4 := cell_keep x4 hb
  replace y4 := cell_keep y4 hb
  replace Q5 := mkH (Q5.out.keep hb)
  replace x5 := cell_keep x5 hb
  replace y5 := cell_keep y5 hb
  replace Q6 := mkH (Q6.out.keep hb)
  replace x6 := cell_keep x6 hb
  replace y6 := cell_keep y6 hb
  clear hb L22
  dsimp only
  go_wp2_with fail
  go_at_call 11
  refine (bq_g Q6.out Q3.out HS3.out).mono ?_
  rintro e w24 ⟨rfl, hb⟩
  have L24 := mkH (bT L23.out hb)
  replace Q1 := mkH (Q1.out.keep hb)
  replace x1 := cell_keep x1 hb
  replace y1 := cell_keep y1 hb
  replace Q2 := mkH (Q2.out.keep hb)
  replace x2 := cell_keep x2 hb
  replace y2 := cell_keep y2 hb
  replace Q3 := mkH (Q3.out.keep hb)
  replace x3 := cell_keep x3 hb
  replace y3 := cell_keep y3 hb
  replace Q4 := mkH (Q4.out.keep hb)
  replace x4 := cell_keep x4 hb
  replace y4 := cell_keep y4 hb
  replace Q5 := mkH (Q5.out.keep hb)
  replace x5 := cell_keep x5 hb
  replace y5 := cell_keep y5 hb
  replace Q6 := mkH (Q6.out.keep hb)
  replace x6 := cell_keep x6 hb
  replace y6 := cell_keep y6 hb
  clear hb L23
  dsimp only
  go_wp2_with (first | refine wl_ldg ty50 (.tmp 23) (by first | rfl | simp [Region.wanted, yielded]) rfl rfl (cx (.slice va6 vn6 vc6) s3.cur s3.m) (cx_len HS3.out.m) (range_blk Q6.out.b50) ?_ | refine wl_ldg ty50 (.tmp 14) (by first | rfl | simp [Region.wanted, yielded]) rfl rfl (cx (.slice va3 vn3 vc3) s3.cur s3.m) (cx_len HS3.out.m) (range_blk Q3.out.b50) ?_ | fail)
  go_at_call 27
  refine (bq_c Q6.out Q3.out HS3.out).mono ?_
  rintro e w25 ⟨rfl, hb⟩
  have L25 := mkH (bT L24.out hb)
  replace Q1 := mkH (Q1.out.keep hb)
  replace x1 := cell_keep x1 hb
  replace y1 := cell_keep y1 hb
  replace Q2 := mkH (Q2.out.keep hb)
  replace x2 := cell_keep x2 hb
  replace y2 := cell_keep y2 hb
  replace Q3 := mkH (Q3.out.keep hb)
  replace x3 := cell_keep x3 hb
  replace y3 := cell_keep y3 hb
  replace Q4 := mkH (Q4.out.keep hb)
  replace x4 := cell_keep x4 hb
  replace y4 := cell_keep y4 hb
  replace Q5 := mkH (Q5.out.keep hb)
  replace x5 := cell_keep x5 hb
  replace y5 := cell_keep y5 hb
  replace Q6 := mkH (Q6.out.keep hb)
  replace x6 := cell_keep x6 hb
  replace y6 := cell_keep y6 hb
  clear hb L24
  dsimp only
  go_wp2
  go_ret
  exact ⟨rfl, L25.out⟩
theorem groveCrosses_walk (ao : Option Addr) (n c : Nat) (now tt : Int) (G : List Nr) (m : List Int) (w : World) (HG : Hid (Grz w ao G)) (hn : G.length = n) (hc : n ≤ c) (hm : Mw m) (hbig : ∀ d ∈ G.map Nr.d, nsum d.ed + osum d.ed + d.ed.length ≤ 1048576) (hn9 : n ≤ 1048576) :
    Calls Try.prog 5 #[.agg #[.slice ao n c, .int .i64 now], .int .i64 tt, .agg (mk m)] w fun e w' => e = .returned (.bool true) ∧ Below w.heap.size w w' := groveCrosses_walk' zm rfl z50 ao n c now tt G m w HG hn hc hm hbig hn9
end Go.Proofs.Ytaahklapoppgaaa
