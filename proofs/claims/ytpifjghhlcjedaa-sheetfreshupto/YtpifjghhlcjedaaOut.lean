/- A sheet's takeOut and Delete. Conditions: the sheet lies in memory, its tree is whole and its pieces good, the text is small. -/
import Derived.Test.YtpifjghhlcjedaaMeet
namespace Go.Proofs.Ytpifjghhlcjedaa
open Go.RowKit

/-- How bytes are taken out of a tree. -/
def OutR (O A : List UInt8) (t : Tr) (x y : Int) (t' : Tr) : Prop := ∃ T U T1 U1, CutR O A t y T U ∧ CutR O A T x T1 U1 ∧ MeetR T1 U t'

theorem OutR.ok {O A : List UInt8} {t t' : Tr} {x y : Int} (h : OutR O A t x y t') (hw : t.whole) (hg : Gds O A t.list) (hz : (txt O A t.list).length ≤ 1048575) (h1 : x ≤ y) :
    t'.whole ∧ Gds O A t'.list ∧ txt O A t'.list = (txt O A t.list).take x.toNat ++ (txt O A t.list).drop y.toNat := by
  obtain ⟨T, U, T1, U1, hc, hd, hm⟩ := h
  obtain ⟨a1, a2, a3, a4, a5, a6, a7⟩ := hc.ok hw hg
  obtain ⟨b1, b2, b3, b4, b5, b6, b7⟩ := hd.ok a1 a3
  have e : txt O A T1.list = (txt O A t.list).take x.toNat := by rw [b5, a5, List.take_take]; congr 1; omega
  obtain ⟨c1, c2, c3⟩ := hm.ok b1 a2 b3 a4 (by rw [e, a6, List.length_take, List.length_drop]; omega)
  exact ⟨c1, c2, by rw [c3, e, a6]⟩

/-- What takeOut leaves. -/
def OutGave (w : World) (base sb bb : Nat) (vo va : Value) (O A : List UInt8) (t : Tr) (x y e : Int) (w' : World) : Prop :=
  ∃ a' t', OutR O A t x y t' ∧ Sh w' base sb bb vo va O A t' a' (e + 1) ∧ Chg w w' sb bb va.ownBlock

set_option maxHeartbeats 4000000 in
theorem takeOut_some (sb bb : Nat) (vo va : Value) (O A : List UInt8) (t : Tr) (a : Option Addr) (e : Int) (base : Nat) (x y : Int) (w : World)
    (hSh : Hid (Sh w base sb bb vo va O A t a e)) (hw : Hid t.whole) (hg : Hid (Gds O A t.list)) (hz : Hid ((txt O A t.list).length ≤ 1048574)) (hne : (x == y) = false) (h0 : 0 ≤ x) (h1 : x ≤ y) (h2 : y ≤ t.byt) (he : 0 ≤ e ∧ e ≤ 4611686018427387904) :
    Calls Try.prog 79 #[.pointer (some ⟨sb, 0, none⟩), .int .i64 x, .int .i64 y] w fun e' w' => (∃ r, e' = .returned r) ∧ OutGave w base sb bb vo va O A t x y e w' := by
  have htx := len_le_txt hg.out
  have hsz : t.size ≤ (txt O A t.list).length := by rw [← t.size_list]; exact htx
  have hfine : t.fine := (Tr.fine_list t).2 (hg.out.fine (by have := hz.out; omega))
  have hbt := txt_len hg.out
  rw [← byt_list] at hbt
  have hcut := hid (fun W (hW : Below w.heap.size w W) => cut_any sb (some ⟨bb, 0, none⟩) (.pointer a) (.int .i64 e) O A base t a y W (hSh.out.shb.keep hW) (hSh.out.tree.keep hW) (by omega) h2 hw.out hfine hg.out (by have := hz.out; omega))
  have hcut2 := hid (fun T U x6 W (hc : CutR O A t y T U) (hW : ShB W base sb (some ⟨bb, 0, none⟩) (.pointer a) (.int .i64 e) O A) (hT : At W T x6) => by
    obtain ⟨a1, a2, a3, a4, a5, a6, a7⟩ := hc.ok hw.out hg.out
    have hl : (txt O A T.list).length = y.toNat := by rw [a5, List.length_take]; omega
    have hb2 := txt_len a3
    rw [← byt_list] at hb2
    have hz' := hz.out
    have hs2 := len_le_txt a3
    rw [T.size_list] at hs2
    exact cut_any sb (some ⟨bb, 0, none⟩) (.pointer a) (.int .i64 e) O A base T x6 x W hW hT h0 (by omega) a1 ((Tr.fine_list T).2 (a3.fine (by omega))) a3 (by omega))
  have hmeet := hid (fun T U T1 U1 la ra W (hc : CutR O A t y T U) (hd : CutR O A T x T1 U1) (hL : At W T1 la) (hR : At W U ra) => by
    obtain ⟨a1, a2, a3, a4, a5, a6, a7⟩ := hc.ok hw.out hg.out
    obtain ⟨b1, b2, b3, b4, b5, b6, b7⟩ := hd.ok a1 a3
    exact meet_any O A T1 U la ra W hL hR b1 a2 b3 a4 (by have := hz.out; rw [b5, a5, a6, List.length_take, List.length_take, List.length_drop]; omega))
  obtain ⟨c0, c1, c2, f0, f1, f2⟩ := sh_cells hSh.out.here
  clear htx hsz hfine hbt
  go_enter Try.func79, Try.ntmps79
  go_wp2_with (first
    | (go_at_call 104; refine (hcut.out _ (Below.refl _ _)).mono ?_; rintro e9 w9 ⟨T, U, hct, x9, y9, rfl, hx, hy, hb9⟩; have P0 := Pw.start hSh.out hb9 hx hy; have HCT := hid hct; clear hct hx hy hb9 c0 c1 c2 f0 f1 f2 hcut; obtain ⟨c6, f6⟩ := box_cell P0.b6; obtain ⟨c7, f7⟩ := box_cell P0.b7; have HP := hid P0; clear P0)
    | (go_at_call 104; refine (hcut2.out T U x9 _ HCT.out HP.out.shb HP.out.tx).mono ?_; rintro e8 w8 ⟨T1, U1, hct2, x8, y8, rfl, hx8, hy8, hb8⟩; have P8 := HP.out.below hb8; have HCT2 := hid hct2; have X8 := hid hx8; clear hct2 hx8 hy8 c6 f6 c7 f7 hb8 hcut2; obtain ⟨c6, f6⟩ := box_cell P8.b6; obtain ⟨c7, f7⟩ := box_cell P8.b7; have n67 : ¬ (w9.heap.size = w9.heap.size + 1) := (by omega); have HP8 := hid P8; have HP7 := hid (P8.set6 X8.out); clear P8)
    | (go_at_call 107; refine (hmeet.out T U T1 U1 x8 y9 _ HCT.out HCT2.out HP7.out.tx HP7.out.uy).mono ?_; rintro e7 w7 ⟨t7, hm7, x7, rfl, hx7, hb7⟩; have HP6 := hid (HP7.out.below hb7); have HM7 := hid hm7; have X7 := hid hx7; clear hm7 hx7 hb7 c6 f6 c7 f7; obtain ⟨c0, c1, c2, f0, f1, f2⟩ := sh_cells HP6.out.here))
  obtain ⟨F1, F2⟩ := HP6.out.fin (e' := e + 1) hSh.out.lo X7.out
  go_end0
  exact ⟨⟨_, rfl⟩, x7, t7, ⟨T, U, T1, U1, HCT.out, HCT2.out, HM7.out⟩, F1, F2⟩

set_option maxHeartbeats 1000000 in
theorem Delete_some (sb bb : Nat) (vo va : Value) (O A : List UInt8) (t : Tr) (a : Option Addr) (e : Int) (base : Nat) (x y : Int) (w : World)
    (hSh : Hid (Sh w base sb bb vo va O A t a e)) (hw : Hid t.whole) (hg : Hid (Gds O A t.list)) (hz : Hid ((txt O A t.list).length ≤ 1048574)) (hne : (x == y) = false) (h0 : 0 ≤ x) (h1 : x ≤ y) (h2 : y ≤ t.byt) (he : 0 ≤ e ∧ e ≤ 4611686018427387904) :
    Calls Try.prog 42 #[.pointer (some ⟨sb, 0, none⟩), .int .i64 x, .int .i64 y] w fun e' w' => e' = .returned (.int .i64 0) ∧ ∃ w1, Below w.heap.size w w1 ∧ OutGave w1 base sb bb vo va O A t x y e w' := by
  have hr : decide (0 ≤ x ∧ x ≤ y ∧ y ≤ t.byt) = true := by simp; omega
  have HR := hid (fun W (hW : Below w.heap.size w W) => hasRange_any (some ⟨sb, 0, none⟩) a e t x y W (hSh.out.keep hW).sht (hSh.out.tree.keep hW))
  rw [hr] at HR
  have HP := hid (fun W (hW : Below w.heap.size w W) => takeOut_some sb bb vo va O A t a e base x y W (hSh.out.keep hW) hw hg hz hne h0 h1 h2 he)
  go_enter Try.func42, Try.ntmps42
  go_wp2_with (first
    | (go_at_call 77; refine (HR.out _ (Below.refl _ _)).mono ?_; rintro e9 w9 ⟨rfl, hb9⟩)
    | (go_at_call 79; refine (HP.out _ hb9).mono ?_; rintro e8 w8 ⟨⟨r8, rfl⟩, hp8⟩; have H8 := hid hp8; clear hp8))
  go_ret
  exact ⟨rfl, w9, hb9, H8.out⟩

end Go.Proofs.Ytpifjghhlcjedaa
