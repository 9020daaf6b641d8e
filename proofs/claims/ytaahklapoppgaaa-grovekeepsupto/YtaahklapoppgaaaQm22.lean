/- The program's Undo, Redo: what they share. -/
import Derived.Test.YtaahklapoppgaaaQm18
import Derived.Test.YtaahklapoppgaaaQm21
namespace Go.Proofs.Ytaahklapoppgaaa
open Go.RowKit

set_option maxRecDepth 8000
theorem ty24 : Ty 24 2 := ⟨⟨_, Try.underlying24, rfl⟩, by kernel_rfl⟩
theorem ld24v {W : World} {B : Nat} {v u : Value} (h : Blk W B 24 #[v, u]) : (loadVar 24 ⟨B, 0, none⟩).run Try.prog W = .ok (.agg #[v, u]) W := ld_var ty24 [v, u] rfl (range_blk h)
theorem ld50v {W : World} {B : Nat} {v : Value} {c : Int} {L : List Int} (hL : L.length = 27) (h : Blk W B 50 (cxa v c L)) : (loadVar 50 ⟨B, 0, none⟩).run Try.prog W = .ok (.agg (cxa v c L)) W := ld_var ty50 (cx v c L) (cx_len hL) (range_blk h)
/-- what lies ahead: both arguments, both results -/
structure U4 (w W : World) (ao : Option Addr) (n c : Nat) (now : Int) (m Z : List Int) : Prop where
  b1 : Blk W w.heap.size 24 #[.slice ao n c, .int .i64 now]
  b2 : Blk W (w.heap.size + 1) 41 (mk m)
  b3 : Blk W (w.heap.size + 1 + 1) 24 #[.slice none 0 0, .int .i64 0]
  b4 : Blk W (w.heap.size + 1 + 1 + 1) 50 (cxa (.slice none 0 0) 0 Z)
  bel : Below w.heap.size w W
theorem U4.keep {w W W' : World} {ao : Option Addr} {n c : Nat} {now : Int} {m Z : List Int} (h : U4 w W ao n c now m Z) (hb : Below W.heap.size W W') : U4 w W' ao n c now m Z := ⟨h.b1.keep hb, h.b2.keep hb, h.b3.keep hb, h.b4.keep hb, bT h.bel hb⟩
theorem U4.low {lo : Nat} {w W W' : World} {ao : Option Addr} {n c : Nat} {now : Int} {m Z : List Int} (h : U4 w W ao n c now m Z) (hb : Below lo W W') (hl : w.heap.size + 1 + 1 + 1 < lo) : U4 w W' ao n c now m Z := by
  have k : ∀ {B e : Nat} {cs : Array Value}, Blk W B e cs → B < lo → Blk W' B e cs := fun h1 h2 => by unfold Blk; rw [hb.block _ h2]; exact h1
  exact ⟨k h.b1 (by omega), k h.b2 (by omega), k h.b3 (by omega), k h.b4 (by omega), h.bel.trans (hb.mono (by omega))⟩
theorem u4_new (w : World) (ao : Option Addr) (n c : Nat) (now : Int) (m Z : List Int) : U4 w ((((w.alloc (.cells #[.slice ao n c, .int .i64 now] 24)).alloc (.cells (mk m) 41)).alloc (.cells #[.slice none 0 0, .int .i64 0] 24)).alloc (.cells (cxa (.slice none 0 0) 0 Z) 50)) ao n c now m Z := by
  have e1 := Blk.new w 24 #[.slice ao n c, .int .i64 now]
  have e2 := Blk.new (w.alloc (.cells #[.slice ao n c, .int .i64 now] 24)) 41 (mk m)
  have e3 := Blk.new ((w.alloc (.cells #[.slice ao n c, .int .i64 now] 24)).alloc (.cells (mk m) 41)) 24 #[.slice none 0 0, .int .i64 0]
  have e4 := Blk.new (((w.alloc (.cells #[.slice ao n c, .int .i64 now] 24)).alloc (.cells (mk m) 41)).alloc (.cells #[.slice none 0 0, .int .i64 0] 24)) 50 (cxa (.slice none 0 0) 0 Z)
  simp only [World.size_alloc] at e2 e3 e4
  exact ⟨((e1.keep (bAlloc (Below.refl _ _) _)).keep (bAlloc (Below.refl _ _) _)).keep (bAlloc (Below.refl _ _) _), (e2.keep (bAlloc (Below.refl _ _) _)).keep (bAlloc (Below.refl _ _) _), e3.keep (bAlloc (Below.refl _ _) _), e4, bAlloc (bAlloc (bAlloc (bAlloc (Below.refl _ _) _) _) _) _⟩
/-- a walk's answer -/
def WkP (s : Wk) (w : World) (e : Ending) (w' : World) : Prop := ∃ lo p B k H X S va vn vc F, e = .returned (.tuple #[.agg #[.slice (some ⟨B, 0, none⟩) H.length k, .int .i64 s.now], .agg (cxa (.slice va vn vc) s.cur s.m), .int .i64 0]) ∧ H.map Nr.d = s.G ∧ F.map Er.d = s.E ∧ w.heap.size ≤ lo ∧ Hst lo p w' B H X S ∧ Ls (p + 1) w'.heap.size w' (.slice va vn vc) F ∧ F.length = vn ∧ Mw s.m ∧ H.length ≤ k ∧ p < w'.heap.size ∧ Below w.heap.size w w'
/-- a refusal -/
def NoP (Z : List Int) (z : Int) (w : World) (e : Ending) (w' : World) : Prop := e = .returned (.tuple #[.agg #[.slice none 0 0, .int .i64 0], .agg (cxa (.slice none 0 0) 0 Z), .int .i64 z]) ∧ Below w.heap.size w w'
def CrP (Z : List Int) (z : Int) (s : Wk) (w : World) (e : Ending) (w' : World) : Prop := (z = 0 → WkP s w e w') ∧ (z ≠ 0 → NoP Z z w e w')
theorem CrP.no {Z : List Int} {z : Int} {s : Wk} {w w' : World} {e : Ending} (hz : z ≠ 0) (h : NoP Z z w e w') : CrP Z z s w e w' := ⟨fun e => absurd e hz, fun _ => h⟩
theorem CrP.yes {Z : List Int} {s : Wk} {w w' : World} {e : Ending} (h : WkP s w e w') : CrP Z 0 s w e w' := ⟨fun _ => h, fun e => absurd rfl e⟩
noncomputable def undE (D : List Nd) (now : Int) (m : List Int) : Int := ti (Right D now) (ti (MOk m) (ti (now = 0) 181 0) 2) 180
noncomputable def redE (D : List Nd) (now : Int) (m : List Int) : Int := ti (Right D now) (ti (MOk m) (ti ((at' D now.toNat).nxt = 0) 182 0) 2) 180
theorem up_st {s : Wk} {H : List Nr} {r : Nr} {k : Nat} (hH : H.map Nr.d = s.G) (hr : H[k]? = some r) : (s.up k).G = (H.set k (r.mk2 s.m (crs s.m r.was r.made (inv (r.E.map Er.d))))).map Nr.d ∧ (s.up k).now = r.par ∧ (s.up k).E = s.E ++ inv (r.E.map Er.d) ∧ (s.up k).cur = r.cur ∧ (s.up k).m = crs s.m r.was r.made (inv (r.E.map Er.d)) := by
  have ha : at' s.G k = r.d := by rw [← hH]; exact map_at hr
  unfold Wk.up
  rw [ha, List.map_set, hH]
  exact ⟨rfl, rfl, rfl, rfl, rfl⟩
theorem dn_st {s : Wk} {H : List Nr} {r t : Nr} {k k0 : Nat} (hH : H.map Nr.d = s.G) (hr : H[k]? = some r) (ht : H[k0]? = some t) (hk : k0 ≠ k) (hp : r.par = (k0 : Int)) : (s.down k).G = ((H.set k (r.mk2 s.m (crs s.m r.was r.made (r.E.map Er.d)))).set k0 (t.to (k : Int))).map Nr.d ∧ (s.down k).now = (k : Int) ∧ (s.down k).E = s.E ++ r.E.map Er.d ∧ (s.down k).cur = fst (r.E.map Er.d) ∧ (s.down k).m = crs s.m r.was r.made (r.E.map Er.d) := by
  have ha : at' s.G k = r.d := by rw [← hH]; exact map_at hr
  have hp0 : pr s.G k = k0 := by unfold pr; rw [ha]; show r.par.toNat = k0; rw [hp]; rfl
  have hb : at' (s.dn1 k) k0 = t.d := by
    unfold Wk.dn1
    rw [getD_set, if_neg (fun h => hk h.1.symm), ← hH]; exact map_at ht
  unfold Wk.down
  rw [hp0, hb, ha, List.map_set, List.map_set, hH]
  unfold Wk.dn1
  rw [ha]
  exact ⟨rfl, rfl, rfl, rfl, rfl⟩
theorem stE_cases (D : List Nd) (now : Int) (m : List Int) : (¬ Right D now ∧ stE D now m = 180) ∨ (Right D now ∧ ¬ MOk m ∧ stE D now m = 2) ∨ (Right D now ∧ MOk m ∧ stE D now m = 0) := by
  unfold stE
  by_cases h1 : Right D now
  · by_cases h2 : MOk m
    · exact .inr (.inr ⟨h1, h2, by rw [ti_t h1, ti_t h2]⟩)
    · exact .inr (.inl ⟨h1, h2, by rw [ti_t h1, ti_f h2]⟩)
  · exact .inl ⟨h1, by rw [ti_f h1]⟩
theorem set24 {W : World} {B : Nat} {v u v' u' : Value} (h : Blk W B 24 #[v, u]) : Blk ((W.setCell ⟨B, 0, none⟩ v').setCell ⟨B, 1, none⟩ u') B 24 #[v', u'] := (h.set (j := 0) v').set (j := 1) u'
/-- something is written below a walk's blocks -/
theorem Wm.low3 {lo q p B k vn vc b : Nat} {W W' : World} {H : List Nr} {X : List Value} {S : List (Nat × Nat)} {va : Option Addr} {F : List Er} {now cur : Int} {m : List Int} (h : Wm lo q W p B k H X S va vn vc F now cur m) (hg : W.grownBy W' (some b)) (hb : b < lo) : Wm lo q W' p B k H X S va vn vc F now cur m := by
  have hk := Kept.one hg
  have h1 := h.hst.l0
  have h2 := h.hst.h0
  exact ⟨h.box.grown hg (fun e => by injection e with e; omega), h.hst.kept hk (.inl (by omega)), h.eds.kept hk (.inl (by omega)), h.fl, h.mw, h.pq, Nat.le_trans h.qt hg.size, h.hk⟩
set_option maxHeartbeats 16000000 in
set_option linter.unusedSimpArgs false in
theorem undo_walk (Z : List Int) (hZ : Z.length = 27) (hz50 : ∀ w, (zeroValue 50).run Try.prog w = .ok (.agg (cxa (.slice none 0 0) 0 Z)) w) (_hb50 : ∀ w, (Instr.build 50 #[]).run Try.prog w = .ok (.agg (cxa (.slice none 0 0) 0 Z)) w) (ao : Option Addr) (n c : Nat) (now : Int) (G : List Nr) (m : List Int) (w : World) (HG : Hid (Grz w ao G)) (hn : G.length = n) (hc : n ≤ c) (hm : Mw m) :
    Calls Try.prog 24 #[.agg #[.slice ao n c, .int .i64 now], .agg (mk m)] w fun e w' => CrP Z (undE (G.map Nr.d) now m) ((Wk.new (G.map Nr.d) now m).up now.toNat) w e w' := by
  have hml := hm.len
  obtain ⟨W1, hW1⟩ : ∃ W1, W1 = (((w.alloc (.cells #[.slice ao n c, .int .i64 now] 24)).alloc (.cells (mk m) 41)).alloc (.cells #[.slice none 0 0, .int .i64 0] 24)).alloc (.cells (cxa (.slice none 0 0) 0 Z) 50) := ⟨_, rfl⟩
  have U1 : Hid (U4 w W1 ao n c now m Z) := by unfold Hid; rw [hW1]; exact u4_new w ao n c now m Z
  have hS1 : Hid (w.heap.size + 1 + 1 + 1 < W1.heap.size) := U1.out.b4.lt
  have C57 := start_any ao n c now G m W1 (HG.out.keep U1.out.bel) hn hc hm
  have a1 : W1.cell? ⟨w.heap.size, 0, none⟩ = some (.slice ao n c) := U1.out.b1.cell rfl
  have b1 : W1.cell? ⟨w.heap.size, 1, none⟩ = some (.int .i64 now) := U1.out.b1.cell rfl
  rcases stE_cases (G.map Nr.d) now m with ⟨hr, he⟩ | ⟨hr, ho, he⟩ | ⟨hr, ho, he⟩
  · have C57' := mkH C57
    rw [he] at C57'
    have hq : undE (G.map Nr.d) now m = 180 := by unfold undE; rw [ti_f hr]
    rw [hq]
    clear C57 hr he hq hn
    go_enter Try.func24, Try.ntmps24
    go_upto_region 1 with fail
    rw [← hW1]
    clear hW1
    go_wp2_with (first | refine wl_ld41 (B := w.heap.size + 1) (o := 0) (.tmp 3) rfl rfl rfl hml (range_blk U1.out.b2) ?_ | (go_at_call 57; refine C57'.out.mono ?_; rintro e w2 ⟨rfl, hw⟩; have U2 := mkH (U1.out.keep hw); have a2 := cell_keep a1 hw; have b2 := cell_keep b1 hw; have e30 : w2.cell? ⟨w.heap.size + 1 + 1, 0, none⟩ = some (.slice none 0 0) := U2.out.b3.cell rfl; have e31 : w2.cell? ⟨w.heap.size + 1 + 1, 1, none⟩ = some (.int .i64 0) := U2.out.b3.cell rfl; have f30 : w2.frozen? ⟨w.heap.size + 1 + 1, 0, none⟩ = false := U2.out.b3.frozen _; have f31 : w2.frozen? ⟨w.heap.size + 1 + 1, 1, none⟩ = false := U2.out.b3.frozen _; clear hw) | (refine wl_st50 (B := w.heap.size + 1 + 1 + 1) (o := 0) (.tmp 5) (.tmp 22) rfl rfl rfl rfl hZ (by have h4 := U2.out.b4; have h5 := Blk.off (B := w.heap.size + 1 + 1) (j := 1) (Blk.off (B := w.heap.size + 1 + 1) (j := 0) h4 (by omega) (.slice none 0 0)) (by omega) (.int .i64 0); have h6 := there_blk (cs := cx (.slice none 0 0) 0 Z) h5; rwa [cx_len hZ] at h6) ?_) | fail)
    have N3 : Blk ((w2.setCell ⟨w.heap.size + 1 + 1, 0, none⟩ (.slice none 0 0)).setCell ⟨w.heap.size + 1 + 1, 1, none⟩ (.int .i64 0)) (w.heap.size + 1 + 1) 24 #[.slice none 0 0, .int .i64 0] := set24 U2.out.b3
    have N4 : Blk ((w2.setCell ⟨w.heap.size + 1 + 1, 0, none⟩ (.slice none 0 0)).setCell ⟨w.heap.size + 1 + 1, 1, none⟩ (.int .i64 0)) (w.heap.size + 1 + 1 + 1) 50 (cxa (.slice none 0 0) 0 Z) := (U2.out.b4.off (by omega) _).off (by omega) _
    have LB : Below w.heap.size w ((w2.setCell ⟨w.heap.size + 1 + 1, 0, none⟩ (.slice none 0 0)).setCell ⟨w.heap.size + 1 + 1, 1, none⟩ (.int .i64 0)) := (U2.out.bel.setCell (by show w.heap.size ≤ w.heap.size + 1 + 1; omega) _).setCell (by show w.heap.size ≤ w.heap.size + 1 + 1; omega) _
    generalize (w2.setCell ⟨w.heap.size + 1 + 1, 0, none⟩ (.slice none 0 0)).setCell ⟨w.heap.size + 1 + 1, 1, none⟩ (.int .i64 0) = w3 at *
    have N3b := blk_setCells_off (B := w.heap.size + 1 + 1 + 1) (by omega) (cx (.slice none 0 0) 0 Z) 0 N3
    have N4b := put_blk (cs := cx (.slice none 0 0) 0 Z) (old := cx (.slice none 0 0) 0 Z) rfl N4
    have LBb := below_setCells (B := w.heap.size + 1 + 1 + 1) (by omega) (cx (.slice none 0 0) 0 Z) 0 LB
    have l24 := ld24v N3b
    have l50 := ld50v hZ N4b
    exact bodyPost_ret (v := .tuple #[.agg #[.slice none 0 0, .int .i64 0], .agg (cxa (.slice none 0 0) 0 Z), .int .i64 180]) (by simp [results, Try.results24, asAddr, l24, l50]) rfl (CrP.no (by decide) ⟨rfl, LBb⟩)
  · have C57' := mkH C57
    rw [he] at C57'
    have hq : undE (G.map Nr.d) now m = 2 := by unfold undE; rw [ti_t hr, ti_f ho]
    rw [hq]
    clear C57 hr he ho hq hn
    go_enter Try.func24, Try.ntmps24
    go_upto_region 1 with fail
    rw [← hW1]
    clear hW1
    go_wp2_with (first | refine wl_ld41 (B := w.heap.size + 1) (o := 0) (.tmp 3) rfl rfl rfl hml (range_blk U1.out.b2) ?_ | (go_at_call 57; refine C57'.out.mono ?_; rintro e w2 ⟨rfl, hw⟩; have U2 := mkH (U1.out.keep hw); have a2 := cell_keep a1 hw; have b2 := cell_keep b1 hw; have e30 : w2.cell? ⟨w.heap.size + 1 + 1, 0, none⟩ = some (.slice none 0 0) := U2.out.b3.cell rfl; have e31 : w2.cell? ⟨w.heap.size + 1 + 1, 1, none⟩ = some (.int .i64 0) := U2.out.b3.cell rfl; have f30 : w2.frozen? ⟨w.heap.size + 1 + 1, 0, none⟩ = false := U2.out.b3.frozen _; have f31 : w2.frozen? ⟨w.heap.size + 1 + 1, 1, none⟩ = false := U2.out.b3.frozen _; clear hw) | (refine wl_st50 (B := w.heap.size + 1 + 1 + 1) (o := 0) (.tmp 5) (.tmp 22) rfl rfl rfl rfl hZ (by have h4 := U2.out.b4; have h5 := Blk.off (B := w.heap.size + 1 + 1) (j := 1) (Blk.off (B := w.heap.size + 1 + 1) (j := 0) h4 (by omega) (.slice none 0 0)) (by omega) (.int .i64 0); have h6 := there_blk (cs := cx (.slice none 0 0) 0 Z) h5; rwa [cx_len hZ] at h6) ?_) | fail)
    have N3 : Blk ((w2.setCell ⟨w.heap.size + 1 + 1, 0, none⟩ (.slice none 0 0)).setCell ⟨w.heap.size + 1 + 1, 1, none⟩ (.int .i64 0)) (w.heap.size + 1 + 1) 24 #[.slice none 0 0, .int .i64 0] := set24 U2.out.b3
    have N4 : Blk ((w2.setCell ⟨w.heap.size + 1 + 1, 0, none⟩ (.slice none 0 0)).setCell ⟨w.heap.size + 1 + 1, 1, none⟩ (.int .i64 0)) (w.heap.size + 1 + 1 + 1) 50 (cxa (.slice none 0 0) 0 Z) := (U2.out.b4.off (by omega) _).off (by omega) _
    have LB : Below w.heap.size w ((w2.setCell ⟨w.heap.size + 1 + 1, 0, none⟩ (.slice none 0 0)).setCell ⟨w.heap.size + 1 + 1, 1, none⟩ (.int .i64 0)) := (U2.out.bel.setCell (by show w.heap.size ≤ w.heap.size + 1 + 1; omega) _).setCell (by show w.heap.size ≤ w.heap.size + 1 + 1; omega) _
    generalize (w2.setCell ⟨w.heap.size + 1 + 1, 0, none⟩ (.slice none 0 0)).setCell ⟨w.heap.size + 1 + 1, 1, none⟩ (.int .i64 0) = w3 at *
    have N3b := blk_setCells_off (B := w.heap.size + 1 + 1 + 1) (by omega) (cx (.slice none 0 0) 0 Z) 0 N3
    have N4b := put_blk (cs := cx (.slice none 0 0) 0 Z) (old := cx (.slice none 0 0) 0 Z) rfl N4
    have LBb := below_setCells (B := w.heap.size + 1 + 1 + 1) (by omega) (cx (.slice none 0 0) 0 Z) 0 LB
    have l24 := ld24v N3b
    have l50 := ld50v hZ N4b
    exact bodyPost_ret (v := .tuple #[.agg #[.slice none 0 0, .int .i64 0], .agg (cxa (.slice none 0 0) 0 Z), .int .i64 2]) (by simp [results, Try.results24, asAddr, l24, l50]) rfl (CrP.no (by decide) ⟨rfl, LBb⟩)
  · have C57' := mkH C57
    rw [he] at C57'
    by_cases h0 : now = 0
    · subst h0
      have hq : undE (G.map Nr.d) 0 m = 181 := by unfold undE; rw [ti_t hr, ti_t ho, ti_t rfl]
      rw [hq]
      clear C57 hr he ho hq hn
      go_enter Try.func24, Try.ntmps24
      go_upto_region 1 with fail
      rw [← hW1]
      clear hW1
      go_wp2_with (first | refine wl_ld41 (B := w.heap.size + 1) (o := 0) (.tmp 3) rfl rfl rfl hml (range_blk U1.out.b2) ?_ | (go_at_call 57; refine C57'.out.mono ?_; rintro e w2 ⟨rfl, hw⟩; have U2 := mkH (U1.out.keep hw); have a2 := cell_keep a1 hw; have b2 := cell_keep b1 hw; have e30 : w2.cell? ⟨w.heap.size + 1 + 1, 0, none⟩ = some (.slice none 0 0) := U2.out.b3.cell rfl; have e31 : w2.cell? ⟨w.heap.size + 1 + 1, 1, none⟩ = some (.int .i64 0) := U2.out.b3.cell rfl; have f30 : w2.frozen? ⟨w.heap.size + 1 + 1, 0, none⟩ = false := U2.out.b3.frozen _; have f31 : w2.frozen? ⟨w.heap.size + 1 + 1, 1, none⟩ = false := U2.out.b3.frozen _; clear hw) | (refine wl_st50 (B := w.heap.size + 1 + 1 + 1) (o := 0) (.tmp 5) (.tmp 22) rfl rfl rfl rfl hZ (by have h4 := U2.out.b4; have h5 := Blk.off (B := w.heap.size + 1 + 1) (j := 1) (Blk.off (B := w.heap.size + 1 + 1) (j := 0) h4 (by omega) (.slice none 0 0)) (by omega) (.int .i64 0); have h6 := there_blk (cs := cx (.slice none 0 0) 0 Z) h5; rwa [cx_len hZ] at h6) ?_) | fail)
      have N3 : Blk ((w2.setCell ⟨w.heap.size + 1 + 1, 0, none⟩ (.slice none 0 0)).setCell ⟨w.heap.size + 1 + 1, 1, none⟩ (.int .i64 0)) (w.heap.size + 1 + 1) 24 #[.slice none 0 0, .int .i64 0] := set24 U2.out.b3
      have N4 : Blk ((w2.setCell ⟨w.heap.size + 1 + 1, 0, none⟩ (.slice none 0 0)).setCell ⟨w.heap.size + 1 + 1, 1, none⟩ (.int .i64 0)) (w.heap.size + 1 + 1 + 1) 50 (cxa (.slice none 0 0) 0 Z) := (U2.out.b4.off (by omega) _).off (by omega) _
      have LB : Below w.heap.size w ((w2.setCell ⟨w.heap.size + 1 + 1, 0, none⟩ (.slice none 0 0)).setCell ⟨w.heap.size + 1 + 1, 1, none⟩ (.int .i64 0)) := (U2.out.bel.setCell (by show w.heap.size ≤ w.heap.size + 1 + 1; omega) _).setCell (by show w.heap.size ≤ w.heap.size + 1 + 1; omega) _
      generalize (w2.setCell ⟨w.heap.size + 1 + 1, 0, none⟩ (.slice none 0 0)).setCell ⟨w.heap.size + 1 + 1, 1, none⟩ (.int .i64 0) = w3 at *
      have N3b := blk_setCells_off (B := w.heap.size + 1 + 1 + 1) (by omega) (cx (.slice none 0 0) 0 Z) 0 N3
      have N4b := put_blk (cs := cx (.slice none 0 0) 0 Z) (old := cx (.slice none 0 0) 0 Z) rfl N4
      have LBb := below_setCells (B := w.heap.size + 1 + 1 + 1) (by omega) (cx (.slice none 0 0) 0 Z) 0 LB
      have l24 := ld24v N3b
      have l50 := ld50v hZ N4b
      exact bodyPost_ret (v := .tuple #[.agg #[.slice none 0 0, .int .i64 0], .agg (cxa (.slice none 0 0) 0 Z), .int .i64 181]) (by simp [results, Try.results24, asAddr, l24, l50]) rfl (CrP.no (by decide) ⟨rfl, LBb⟩)
    · have hq : undE (G.map Nr.d) now m = 0 := by unfold undE; rw [ti_t hr, ti_t ho, ti_f h0]
      rw [hq]
      have hsz := hr.sz
      rw [sized_iff, hn] at hsz
      obtain ⟨i, rfl⟩ : ∃ i : Nat, now = (i : Int) := ⟨now.toNat, by omega⟩
      rw [Int.toNat_natCast]
      obtain ⟨g, o, rfl, -⟩ := HG.out.base (by omega)
      have CN := mkH (fun V (hV : Below w.heap.size w V) => newWalk_any g o n c (i : Int) G m V (HG.out.keep hV) hn hsz.1 hm)
      have h01 : ((i : Int) == 0) = false := by simp; omega
      have HIn : Hid (i < n) := by unfold Hid; omega
      have HGn := mkH hn
      clear C57 hr he ho hq hn hsz h0
      go_enter Try.func24, Try.ntmps24
      go_upto_region 1 with fail
      rw [← hW1]
      clear hW1
      go_wp2_with (first | refine wl_ld41 (B := w.heap.size + 1) (o := 0) (.tmp 3) rfl rfl rfl hml (range_blk U1.out.b2) ?_ | (go_at_call 57; refine C57'.out.mono ?_; rintro e w2 ⟨rfl, hw⟩; have U2 := mkH (U1.out.keep hw); have a2 := cell_keep a1 hw; have b2 := cell_keep b1 hw; clear hw) | refine wl_ld41 (B := w.heap.size + 1) (o := 0) (.tmp 3) rfl rfl rfl hml (range_blk U2.out.b2) ?_ | fail)
      have hS2 : Hid (w.heap.size + 1 + 1 + 1 < w2.heap.size) := U2.out.b4.lt
      refine (CN.out w2 U2.out.bel).mono ?_
      rintro e w3 ⟨lo, p, B, k, H, X, S, rfl, hH, hlo, hWm, hb3⟩
      have U3 := mkH (U2.out.keep hb3)
      have HW3 := mkH hWm
      have LOz : Hid (w.heap.size + 1 + 1 + 1 < lo) := Nat.lt_of_lt_of_le hS2.out hlo
      have HH := mkH hH
      have hHl : H.length = n := by have := congrArg List.length hH; rw [List.length_map, List.length_map, HGn.out] at this; exact this
      obtain ⟨r, hr⟩ : ∃ r, H[i]? = some r := ⟨_, List.getElem?_eq_getElem (by have := HIn.out; omega)⟩
      have hz := hWm.hst.gow.nz hr
      have CU := mkH (up_any lo w3.heap.size p B k i 0 0 w3 H X S none [] 0 m r hWm hr (by have := hz.big; show (0 + r.en) * 56 ≤ _; omega))
      have HST := mkH (up_st (s := Wk.new (G.map Nr.d) (i : Int) m) hH hr)
      clear hH hlo hWm hb3 hHl hz CN
      dsimp only
      go_wp2_with fail
      refine CU.out.mono ?_
      rintro e wz ⟨⟨u5, rfl⟩, hb5, -, va, vc, F5, hF5, hF5l, -, hW5⟩
      have UY := mkH (U3.out.low hb5 LOz.out)
      obtain ⟨HF, hHF⟩ : ∃ x, x = H.set i (r.mk2 m (crs m r.was r.made (inv (r.E.map Er.d)))) := ⟨_, rfl⟩
      obtain ⟨FF, hFF⟩ : ∃ x, x = [] ++ F5 := ⟨_, rfl⟩
      obtain ⟨vn, hvn⟩ : ∃ x, x = 0 + r.en := ⟨_, rfl⟩
      obtain ⟨nw, hnw⟩ : ∃ x, x = r.par := ⟨_, rfl⟩
      obtain ⟨cu, hcu⟩ : ∃ x, x = r.cur := ⟨_, rfl⟩
      obtain ⟨mm, hmmd⟩ : ∃ x, x = crs m r.was r.made (inv (r.E.map Er.d)) := ⟨_, rfl⟩
      rw [← hHF, ← hFF, ← hvn, ← hnw, ← hcu, ← hmmd] at hW5
      have HWy := mkH hW5
      have HSG : Hid (HF.map Nr.d = ((Wk.new (G.map Nr.d) (i : Int) m).up i).G) := by unfold Hid; rw [HST.out.1, hHF]; rfl
      have HSn : Hid (((Wk.new (G.map Nr.d) (i : Int) m).up i).now = nw) := by unfold Hid; rw [HST.out.2.1, hnw]
      have HSE : Hid (FF.map Er.d = ((Wk.new (G.map Nr.d) (i : Int) m).up i).E) := by unfold Hid; rw [HST.out.2.2.1, hFF, List.map_append, hF5]; rfl
      have HSc : Hid (((Wk.new (G.map Nr.d) (i : Int) m).up i).cur = cu) := by unfold Hid; rw [HST.out.2.2.2.1, hcu]
      have HSm : Hid (((Wk.new (G.map Nr.d) (i : Int) m).up i).m = mm) := by unfold Hid; rw [HST.out.2.2.2.2, hmmd]; rfl
      clear hb5 hF5 hF5l hW5 hHF hFF hvn hnw hcu hmmd HST CU U3 HW3
      dsimp only
      obtain ⟨hn, hhn⟩ : ∃ x, HF.length = x := ⟨_, rfl⟩
      have HHN := mkH hhn
      have HWz : Hid (Wm lo wz.heap.size wz.drew p B k HF X S va vn vc FF nw cu mm) := HWy.out.keep (Below.refl _ _).drew
      have WXz : Hid (Wx wz.drew p B hn k va vn vc nw cu mm) := by have := HWz.out.wx; rwa [hhn] at this
      have UZ : Hid (U4 w wz.drew (some ⟨g, o, none⟩) n c (i : Int) m Z) := UY.out.keep (Below.refl _ _).drew
      have hmm : mm.length = 27 := HWy.out.mw.len
      obtain ⟨zz, hzz⟩ : ∃ x, wz.heap.size = x := ⟨_, rfl⟩
      rw [hzz] at HWz
      clear hhn hzz HWy UY
      go_upto_region 8 with fail
      refine wp_region_held (S := fun w' => Wx w' p B hn k va vn vc nw cu mm) (by kernel_rfl) ?_
      change wpAnyH _ _ _ _ _ _ _ _ (World.drew _)
      generalize wz.drew = V9 at *
      refine tk 0 (.pointer (some ⟨p, 0, none⟩)) WXz.out ?_
      refine tk 1 (.pointer (some ⟨p, 0, none⟩)) WXz.out ?_
      refine tk 2 (.pointer (some ⟨p, 0, none⟩)) WXz.out ?_
      refine ta 3 (.agg #[.slice (some ⟨B, 0, none⟩) hn k, .int .i64 nw]) rfl (Or.inl ⟨by rfl, fun w9 h9 => by obtain ⟨h1, h2, h3, h4, h5, h6⟩ := h9; go_simp⟩) WXz.out ?_
      try simp only [Act.put, jj1, jj2, jj3, jj4, jj5, jj6]
      refine tk 4 (.pointer (some ⟨p, 0, none⟩)) WXz.out ?_
      refine tk 5 (.pointer (some ⟨p, 0, none⟩)) WXz.out ?_
      refine tk 6 (.pointer (some ⟨p, 2, none⟩)) WXz.out ?_
      refine ta 7 (.agg (cxa (.slice va vn vc) cu mm)) rfl (yi50 rfl (.tmp 35) rfl rfl hmm (fun _ h => h.cc)) WXz.out ?_
      try simp only [Act.put, jj1, jj2, jj3, jj4, jj5, jj6]
      refine wpAnyH_all (rs := [8]) (by kernel_rfl) (by simp) (AllH.cons rfl (fun K hK => ?_) AllH.nil)
      have e0 : V9.cell? ⟨w.heap.size + 1 + 1, 0, none⟩ = some (.slice none 0 0) := UZ.out.b3.cell rfl
      have e1 : V9.cell? ⟨w.heap.size + 1 + 1, 1, none⟩ = some (.int .i64 0) := UZ.out.b3.cell rfl
      have f0 : V9.frozen? ⟨w.heap.size + 1 + 1, 0, none⟩ = false := UZ.out.b3.frozen _
      have f1 : V9.frozen? ⟨w.heap.size + 1 + 1, 1, none⟩ = false := UZ.out.b3.frozen _
      have N3 : Hid (Blk ((V9.setCell ⟨w.heap.size + 1 + 1, 0, none⟩ (.slice (some ⟨B, 0, none⟩) hn k)).setCell ⟨w.heap.size + 1 + 1, 1, none⟩ (.int .i64 nw)) (w.heap.size + 1 + 1) 24 #[.slice (some ⟨B, 0, none⟩) hn k, .int .i64 nw]) := set24 UZ.out.b3
      have G3 : Hid (V9.grownBy ((V9.setCell ⟨w.heap.size + 1 + 1, 0, none⟩ (.slice (some ⟨B, 0, none⟩) hn k)).setCell ⟨w.heap.size + 1 + 1, 1, none⟩ (.int .i64 nw)) (some (w.heap.size + 1 + 1))) := (grown_set _ _ _ _).trans (grown_set _ _ _ _)
      go_simp
      clear e0 e1 f0 f1
      generalize (V9.setCell ⟨w.heap.size + 1 + 1, 0, none⟩ (.slice (some ⟨B, 0, none⟩) hn k)).setCell ⟨w.heap.size + 1 + 1, 1, none⟩ (.int .i64 nw) = w10 at *
      have HWb := mkH (HWz.out.low3 G3.out (by have := LOz.out; omega))
      have WXb : Hid (Wx w10 p B hn k va vn vc nw cu mm) := by have := HWb.out.wx; rwa [HHN.out] at this
      have N4 := mkH (UZ.out.b4.grown G3.out (fun e => by injection e with e; omega))
      have LB : Hid (Below w.heap.size w w10) := UZ.out.bel.grown G3.out UZ.out.bel.size (fun j hj => by injection hj with hj; omega)
      refine hK _ _ ⟨WXb.out, ?_⟩
      clear hK K
      try simp only [Act.put, jj1, jj2, jj3, jj4, jj5, jj6]
      refine wpAnyH_all (rs := [9]) (by kernel_rfl) (by simp) (AllH.cons rfl (fun K hK => ?_) AllH.nil)
      refine do_st ty50 rfl (.tmp 5) (.tmp 36) rfl rfl (cx (.slice va vn vc) cu mm) rfl (cx_len hmm) (by have := there_blk (cs := cx (.slice none 0 0) 0 Z) N4.out; rwa [cx_len hZ] at this) cx_one ?_
      have G4 : Hid (w10.grownBy (w10.setCells (w.heap.size + 1 + 1 + 1) 0 (cx (.slice va vn vc) cu mm)) (some (w.heap.size + 1 + 1 + 1))) := grown_setCells _ _ _
      have N4c : Hid (Blk (w10.setCells (w.heap.size + 1 + 1 + 1) 0 (cx (.slice va vn vc) cu mm)) (w.heap.size + 1 + 1 + 1) 50 (cxa (.slice va vn vc) cu mm)) := put_blk (old := cx (.slice none 0 0) 0 Z) (by rw [cx_len hZ, cx_len hmm]) N4.out
      generalize w10.setCells (w.heap.size + 1 + 1 + 1) 0 (cx (.slice va vn vc) cu mm) = w11 at *
      have HWc := mkH (HWb.out.low3 G4.out (by have := LOz.out; omega))
      have WXc : Hid (Wx w11 p B hn k va vn vc nw cu mm) := by have := HWc.out.wx; rwa [HHN.out] at this
      have N3c := mkH (N3.out.grown G4.out (fun e => by injection e with e; omega))
      have LC : Hid (Below w.heap.size w w11) := LB.out.grown G4.out LB.out.size (fun j hj => by injection hj with hj; omega)
      refine hK _ _ ⟨WXc.out, ?_⟩
      clear hK K
      try simp only [Act.put, jj1, jj2, jj3, jj4, jj5, jj6]
      refine tk 10 (.int .i64 0) WXc.out ?_
      try simp only [Act.put, jj1, jj2, jj3, jj4, jj5, jj6]
      refine wpAnyH_done (by kernel_rfl) ?_ _
      have l24 := ld24v N3c.out
      have l50 := ld50v hmm N4c.out
      clear N3 N4 HWb WXb LB
      go_wp2
      exact bodyPost_ret (v := .tuple #[.agg #[.slice (some ⟨B, 0, none⟩) hn k, .int .i64 nw], .agg (cxa (.slice va vn vc) cu mm), .int .i64 0]) (by simp [results, Try.results24, asAddr, l24, l50]) rfl (CrP.yes ⟨lo, p, B, k, HF, X, S, va, vn, vc, FF, by rw [HHN.out, HSn.out, HSc.out, HSm.out], HSG.out, HSE.out, by have := LOz.out; omega, HWc.out.hst, HWc.out.eds.up' HWc.out.qt, HWc.out.fl, by rw [HSm.out]; exact HWc.out.mw, HWc.out.hk, HWc.out.box.lt, LC.out⟩)
end Go.Proofs.Ytaahklapoppgaaa

