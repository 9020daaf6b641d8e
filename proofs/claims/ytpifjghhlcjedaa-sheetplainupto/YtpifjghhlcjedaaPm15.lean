/- A sheet's putIn. Conditions: the sheet lies in memory, its tree is whole and its pieces good, the text stays small. -/
import Derived.Test.YtpifjghhlcjedaaPm14
namespace Go.Proofs.Ytpifjghhlcjedaa
open Go.RowKit

/-- How bytes are put into a tree. -/
def PutR (O A l : List UInt8) (t : Tr) (off : Int) (t' : Tr) : Prop := ∃ T U T' q b, CutR O A t off T U ∧ JoinR T (newP A l) T' q b ∧ t' = Tr.joinT T' q U

/-- What putIn leaves. -/
def PutGave (w : World) (base sb bb : Nat) (vo va : Value) (O A l : List UInt8) (t : Tr) (off e : Int) (w' : World) : Prop :=
  ∃ a' va' t', PutR O A l t off t' ∧ Sh w' base sb bb vo va' O (A ++ l) t' a' (e + 1) ∧ Chg w w' sb bb va.ownBlock ∧ (va'.ownBlock = va.ownBlock ∨ ∃ k, va'.ownBlock = some k ∧ w.heap.size ≤ k)

set_option maxHeartbeats 8000000 in
theorem putIn_some (sb bb : Nat) (vo va : Value) (O A : List UInt8) (t : Tr) (a : Option Addr) (e : Int) (base : Nat) (ad : Addr) (c : Nat) (l : List UInt8) (off : Int) (w : World)
    (hSh : Hid (Sh w base sb bb vo va O A t a e)) (hw : Hid t.whole) (hg : Hid (Gds O A t.list)) (hz : Hid ((txt O A t.list).length + l.length ≤ 1048575)) (hA : Hid (A.length + l.length ≤ 1048576)) (hv : Hid (Ab.Rd w (.slice (some ad) l.length c) l)) (hl : ((l.length : Int) == 0) = false)
    (h0 : 0 ≤ off) (h1 : off ≤ t.byt) (he : 0 ≤ e ∧ e ≤ 4611686018427387904) :
    Calls Try.prog 78 #[.pointer (some ⟨sb, 0, none⟩), .int .i64 off, .slice (some ad) l.length c] w fun e' w' => (∃ r, e' = .returned r) ∧ PutGave w base sb bb vo va O A l t off e w' := by
  have hln : l ≠ [] := fun e => by subst e; simp at hl
  have HL := hid hln
  clear hln
  have htx := len_le_txt hg.out
  have hsz : t.size ≤ (txt O A t.list).length := by rw [← t.size_list]; exact htx
  have hfine : t.fine := (Tr.fine_list t).2 (hg.out.fine (by have := hz.out; omega))
  have hcut := hid (fun W (hW : Below w.heap.size w W) => cut_any sb (some ⟨bb, 0, none⟩) (.pointer a) (.int .i64 e) O A base t a off W (hSh.out.shb.keep hW) (hSh.out.tree.keep hW) h0 h1 hw.out hfine hg.out (by have := hz.out; omega))
  obtain ⟨c0, c1, c2, f0, f1, f2⟩ := sh_cells hSh.out.here
  go_enter Try.func78, Try.ntmps78
  go_wp2_with (first
    | (go_at_call 104; refine (hcut.out _ (Below.refl _ _)).mono ?_; rintro e9 w9 ⟨T, U, hct, x, y, rfl, hx, hy, hb9⟩; have P0 := Pw.start hSh.out hb9 hx hy; have HV := hid ((hv.out.keep hb9).keep (bAA w9 (.cells #[.pointer x] 26) (.cells #[.pointer y] 26))); have HCT := hid hct; clear hct hx hy hb9 c0 c1 c2 f0 f1 f2))
  generalize (w9.alloc (.cells #[.pointer x] 26)).alloc (.cells #[.pointer y] 26) = w8 at *
  obtain ⟨g6, hg6⟩ : ∃ g6, w9.heap.size = g6 := ⟨_, rfl⟩
  rw [hg6] at P0 ⊢
  obtain ⟨g7, hg7⟩ : ∃ g7, g6 + 1 = g7 := ⟨_, rfl⟩
  rw [hg7] at P0 ⊢
  clear hg6 hg7 w9
  have HP := hid P0
  clear P0
  have hS : w8.drew.cell? ⟨g6, 0, none⟩ = some (.pointer x) ∧ w8.drew.cell? ⟨sb, 0, none⟩ = some (.pointer (some ⟨bb, 0, none⟩)) := HP.out.cells
  have P8 := hid (HP.out.below (Below.refl _ _).drew)
  have V8 := hid (HV.out.keep (Below.refl _ _).drew)
  refine wp_region_late (S := fun w' => w'.cell? ⟨g6, 0, none⟩ = some (.pointer x) ∧ w'.cell? ⟨sb, 0, none⟩ = some (.pointer (some ⟨bb, 0, none⟩))) (n0 := 15) (by kernel_rfl) fun hsh => ?_
  change wpLate _ _ _ _ _ _ _ _ _ w8.drew
  refine wpLate_take (i := 0) (v := .agg #[.pointer x]) rfl (by kernel_rfl) (by kernel_rfl) (by kernel_rfl) (by kernel_rfl) hsh rfl (fun _ _ _ h => h) (.inl ⟨rfl, fun w' h => by obtain ⟨h1, h2⟩ := h; go_simp⟩) hS fun hsh => ?_
  refine wpLate_take (i := 1) (v := .pointer (some ⟨sb, 0, none⟩)) rfl (by kernel_rfl) (by kernel_rfl) (by kernel_rfl) (by kernel_rfl) hsh rfl (fun _ _ _ h => h) (.inl ⟨rfl, fun w' h => by obtain ⟨h1, h2⟩ := h; go_simp⟩) hS fun hsh => ?_
  refine wpLate_take (i := 2) (v := .pointer (some ⟨sb, 0, none⟩)) rfl (by kernel_rfl) (by kernel_rfl) (by kernel_rfl) (by kernel_rfl) hsh rfl (fun _ _ _ h => h) (.inl ⟨rfl, fun w' h => by obtain ⟨h1, h2⟩ := h; go_simp⟩) hS fun hsh => ?_
  refine wpLate_take (i := 3) (v := .pointer (some ⟨sb, 0, none⟩)) rfl (by kernel_rfl) (by kernel_rfl) (by kernel_rfl) (by kernel_rfl) hsh rfl (fun _ _ _ h => h) (.inl ⟨rfl, fun w' h => by obtain ⟨h1, h2⟩ := h; go_simp⟩) hS fun hsh => ?_
  refine wpLate_take (i := 4) (v := .pointer (some ⟨sb, 0, none⟩)) rfl (by kernel_rfl) (by kernel_rfl) (by kernel_rfl) (by kernel_rfl) hsh rfl (fun _ _ _ h => h) (.inl ⟨rfl, fun w' h => by obtain ⟨h1, h2⟩ := h; go_simp⟩) hS fun hsh => ?_
  refine wpLate_take (i := 5) (v := .pointer (some ⟨bb, 0, none⟩)) rfl (by kernel_rfl) (by kernel_rfl) (by kernel_rfl) (by kernel_rfl) hsh rfl (fun _ _ _ h => h) (.inl ⟨rfl, fun w' h => by obtain ⟨h1, h2⟩ := h; go_simp⟩) hS fun hsh => ?_
  refine wpLate_take (i := 6) (v := .slice (some ad) l.length c) rfl (by kernel_rfl) (by kernel_rfl) (by kernel_rfl) (by kernel_rfl) hsh rfl (fun _ _ _ h => h) (.inl ⟨rfl, fun w' h => by obtain ⟨h1, h2⟩ := h; go_simp⟩) hS fun hsh => ?_
  clear hS
  generalize w8.drew = W at *
  obtain ⟨ct1, ct2, ct3, ct4, ct5, ct6, ct7⟩ := HCT.out.ok hw.out hg.out
  have hTf : T.fine := (Tr.fine_list T).2 (ct3.fine (by rw [ct5, List.length_take]; have := hz.out; omega))
  have hjl := hid (fun W (hW : At W T x) => joinLast_any T x (newP A l) W hW hTf ct1 (by show -9223372036854775808 ≤ (l.length : Int); omega) (by show (l.length : Int) ≤ 9223372036854775807; have := hA.out; omega) ⟨by show (0 : Int) ≤ Ab.nl l; omega, by show (Ab.nl l : Int) ≤ 4294967296; have := Ab.nl_le l; have := hA.out; omega⟩)
  simp only [Pc.v, newP] at hjl
  have hpc := hid (fun W (hW : ShB W base sb (some ⟨bb, 0, none⟩) (.pointer a) (.int .i64 e) O (A ++ l)) => piece_yes sb (some ⟨bb, 0, none⟩) (.pointer a) (.int .i64 e) O (A ++ l) base 1 A.length l.length W (snd_true ⟨.inr rfl, by omega, by omega, by have := hA.out; omega⟩) (by simp [Ab.which]) hW)
  rw [cutL_new] at hpc
  clear ct2 ct3 ct4 ct5 ct6 ct7 htx hsz hfine hcut
  refine wpLate_two (i := 7) (j := 14) (by kernel_rfl) rfl rfl rfl rfl (fun K hK => ?_) (fun K hK => ?_)
  · go_simp
    refine (Ab.add_any (.slice (some ad) l.length c) bb vo va O A base l W P8.out.buf (by have := hA.out; omega) V8.out).mono ?_
    rintro e7 W7 ⟨va7, rfl, hbuf7, ht7, ho7⟩
    have P7 := hid (P8.out.touch rfl hbuf7 ht7 ho7)
    refine hK _ _ (fun _ _ => P7.out.cells) ?_
    clear hK K hbuf7 ht7 ho7
    refine wpLate_two (i := 8) (j := 14) (by kernel_rfl) rfl rfl rfl rfl (fun K hK => ?_) (fun K hK => ?_)
    · go_simp
      refine (hpc.out W7 P7.out.shb).mono ?_
      rintro e8 W6 ⟨rfl, hb8⟩
      have P6 := hid (P7.out.below hb8)
      refine hK _ _ (fun _ _ => P6.out.cells) ?_
      clear hK K hb8
      refine wpLate_two (i := 9) (j := 14) (by kernel_rfl) rfl rfl rfl rfl (fun K hK => ?_) (fun K hK => ?_)
      · go_simp
        refine (hjl.out W6 P6.out.tx).mono ?_
        rintro e9 W5 ⟨T', ⟨qs, qo, ql, qn⟩, b9, hjr, x9, rfl, hx9, hb9⟩
        simp only [Pc.v]
        have P5 := hid (P6.out.below hb9)
        have X9 := hid hx9
        have JR := hid hjr
        refine hK _ _ (fun _ _ => P5.out.cells) ?_
        clear hK K hb9 hx9 hjr
        refine wpLate_any (i := 10) (v := .tuple #[.agg #[.pointer x9], .agg #[.int .i64 qs, .int .i64 qo, .int .i64 ql, .int .i64 qn], .bool b9]) rfl (by kernel_rfl) (by kernel_rfl) (by kernel_rfl) (by decide) (fun _ _ _ h => h) (.inl ⟨rfl, fun w' _ => by go_simp⟩) (fun _ => P5.out.cells) ?_
        refine wpLate_any (i := 11) (v := .agg #[.pointer x9]) rfl (by kernel_rfl) (by kernel_rfl) (by kernel_rfl) (by decide) (fun _ _ _ h => h) (.inl ⟨rfl, fun w' _ => by go_simp⟩) (fun _ => P5.out.cells) ?_
        refine wpLate_any (i := 12) (v := .agg #[.int .i64 qs, .int .i64 qo, .int .i64 ql, .int .i64 qn]) rfl (by kernel_rfl) (by kernel_rfl) (by kernel_rfl) (by decide) (fun _ _ _ h => h) (.inl ⟨rfl, fun w' _ => by go_simp⟩) (fun _ => P5.out.cells) ?_
        refine wpLate_any (i := 13) (v := .bool b9) rfl (by kernel_rfl) (by kernel_rfl) (by kernel_rfl) (by decide) (fun _ _ _ h => h) (.inl ⟨rfl, fun w' _ => by go_simp⟩) (fun _ => P5.out.cells) ?_
        refine wpLate_step (i := 14) (by kernel_rfl) rfl rfl fun K hK => ?_
        go_simp
        refine hK _ _ (fun _ _ => (P5.out.below (bAlloc (Below.refl _ _) (.cells #[.int .i64 0, .int .i64 0, .int .i64 0, .int .i64 0] 32))).cells) ?_
        clear hK K
        have X9 := hid (X9.out.alloc (.cells #[.int .i64 0, .int .i64 0, .int .i64 0, .int .i64 0] 32))
        have P4 := hid (P5.out.below (bAlloc (Below.refl _ _) (.cells #[.int .i64 0, .int .i64 0, .int .i64 0, .int .i64 0] 32)))
        have E4 := hid (World.alloc_heap_new W5 (.cells #[.int .i64 0, .int .i64 0, .int .i64 0, .int .i64 0] 32))
        have l8 : w.heap.size ≤ W5.heap.size := P5.out.chg.size
        obtain ⟨g8, hg8⟩ : ∃ g8, W5.heap.size = g8 := ⟨_, rfl⟩
        rw [hg8] at E4 l8 ⊢
        generalize W5.alloc (.cells #[.int .i64 0, .int .i64 0, .int .i64 0, .int .i64 0] 32) = W4 at *
        obtain ⟨c0, f0⟩ := box_cell P4.out.b6
        refine wpLate_step (i := 15) (by kernel_rfl) rfl rfl fun K hK => ?_
        go_simp
        refine hK _ _ (fun h => absurd rfl h) ?_
        clear hK K c0 f0
        have PA := hid (P4.out.set6 X9.out)
        have n86 : g8 ≠ g6 := fun e => by have h := E4.out; rw [e, P4.out.b6] at h; cases h
        have EA := hid ((Below.heap_setCell W4 ⟨g6, 0, none⟩ (.pointer x9) g8 n86).trans E4.out)
        generalize W4.setCell ⟨g6, 0, none⟩ (.pointer x9) = WA at *
        obtain ⟨c0, c1, c2, c3⟩ := four_cells EA.out
        have c4 := free_all EA.out
        refine wpLate_step (i := 16) (by kernel_rfl) rfl rfl fun K hK => ?_
        go_simp
        refine hK _ _ (fun _ h => by cases h) ?_
        clear hK K c0 c1 c2 c3 c4
        obtain ⟨s1, s2, s3⟩ := set_four EA.out (.int .i64 qs) (.int .i64 qo) (.int .i64 ql) (.int .i64 qn)
        have PB := hid (PA.out.other EA.out l8 s3 s2 rfl rfl rfl)
        have EB := hid s1
        clear s1 s2 s3
        generalize (((WA.setCell ⟨g8, 0, none⟩ (.int .i64 qs)).setCell ⟨g8, 1, none⟩ (.int .i64 qo)).setCell ⟨g8, 2, none⟩ (.int .i64 ql)).setCell ⟨g8, 3, none⟩ (.int .i64 qn) = WB at *
        refine wpLate_step (i := 17) (by kernel_rfl) rfl rfl fun K hK => ?_
        go_simp
        refine hK _ _ (fun _ h => by cases h) ?_
        clear hK K
        refine wpLate_done (by kernel_rfl) ?_
        obtain ⟨pw1, pw2, pw3, pw4, pw5, pw6⟩ := put_pure HCT.out JR.out hw.out hg.out HL.out hz.out hA.out
        have hq : fitB ql qn = true := by simpa [fitB, Pc.fit] using pw6
        have hjn := hid (fun W (h1 : At W T' x9) (h2 : At W U y) => Join_fit T' U x9 y qs qo ql qn W hq (hid pw5) (hid pw1) (hid pw2) h1 h2)
        obtain ⟨c0, f0⟩ := box_cell PB.out.b6
        obtain ⟨c1, f1⟩ := box_cell PB.out.b7
        obtain ⟨d0, d1, d2, d3⟩ := four_cells EB.out
        go_wp2_with (first
          | (go_at_call 13; refine (hjn.out _ PB.out.tx PB.out.uy).mono ?_; rintro e1 w1 ⟨z, rfl, hz1, hb1⟩; have PC := hid (PB.out.below hb1); have Z1 := hid hz1; clear hb1 hz1 c0 f0 c1 f1 d0 d1 d2 d3; obtain ⟨c0, c1, c2, f0, f1, f2⟩ := sh_cells PC.out.here))
        obtain ⟨F1, F2⟩ := PC.out.fin (e' := e + 1) hSh.out.lo Z1.out
        go_end0
        exact ⟨⟨_, rfl⟩, z, va7, _, ⟨T, U, T', _, b9, HCT.out, JR.out, rfl⟩, F1, F2, PC.out.own⟩
      · go_simp
        refine hK _ _ (fun _ _ => (P6.out.below (bAlloc (Below.refl _ _) (.cells #[.int .i64 0, .int .i64 0, .int .i64 0, .int .i64 0] 32))).cells) ?_
        clear hK K
        have P5 := hid (P6.out.below (bAlloc (Below.refl _ _) (.cells #[.int .i64 0, .int .i64 0, .int .i64 0, .int .i64 0] 32)))
        have E5 := hid (World.alloc_heap_new W6 (.cells #[.int .i64 0, .int .i64 0, .int .i64 0, .int .i64 0] 32))
        have l8 : w.heap.size ≤ W6.heap.size := P6.out.chg.size
        obtain ⟨g8, hg8⟩ : ∃ g8, W6.heap.size = g8 := ⟨_, rfl⟩
        rw [hg8] at E5 l8 ⊢
        generalize W6.alloc (.cells #[.int .i64 0, .int .i64 0, .int .i64 0, .int .i64 0] 32) = W5 at *
        refine wpLate_step (i := 9) (by kernel_rfl) rfl rfl fun K hK => ?_
        go_simp
        refine (hjl.out W5 P5.out.tx).mono ?_
        rintro e9 W4 ⟨T', ⟨qs, qo, ql, qn⟩, b9, hjr, x9, rfl, hx9, hb9⟩
        simp only [Pc.v]
        have P4 := hid (P5.out.below hb9)
        have X9 := hid hx9
        have JR := hid hjr
        have E4 := hid ((hb9.block _ (sh_lt E5.out)).trans E5.out)
        refine hK _ _ (fun _ _ => P4.out.cells) ?_
        clear hK K hb9 hx9 hjr
        refine wpLate_any (i := 10) (v := .tuple #[.agg #[.pointer x9], .agg #[.int .i64 qs, .int .i64 qo, .int .i64 ql, .int .i64 qn], .bool b9]) rfl (by kernel_rfl) (by kernel_rfl) (by kernel_rfl) (by decide) (fun _ _ _ h => h) (.inl ⟨rfl, fun w' _ => by go_simp⟩) (fun _ => P4.out.cells) ?_
        refine wpLate_any (i := 11) (v := .agg #[.pointer x9]) rfl (by kernel_rfl) (by kernel_rfl) (by kernel_rfl) (by decide) (fun _ _ _ h => h) (.inl ⟨rfl, fun w' _ => by go_simp⟩) (fun _ => P4.out.cells) ?_
        refine wpLate_any (i := 12) (v := .agg #[.int .i64 qs, .int .i64 qo, .int .i64 ql, .int .i64 qn]) rfl (by kernel_rfl) (by kernel_rfl) (by kernel_rfl) (by decide) (fun _ _ _ h => h) (.inl ⟨rfl, fun w' _ => by go_simp⟩) (fun _ => P4.out.cells) ?_
        refine wpLate_any (i := 13) (v := .bool b9) rfl (by kernel_rfl) (by kernel_rfl) (by kernel_rfl) (by decide) (fun _ _ _ h => h) (.inl ⟨rfl, fun w' _ => by go_simp⟩) (fun _ => P4.out.cells) ?_
        obtain ⟨c0, f0⟩ := box_cell P4.out.b6
        refine wpLate_step (i := 15) (by kernel_rfl) rfl rfl fun K hK => ?_
        go_simp
        refine hK _ _ (fun h => absurd rfl h) ?_
        clear hK K c0 f0
        have PA := hid (P4.out.set6 X9.out)
        have n86 : g8 ≠ g6 := fun e => by have h := E4.out; rw [e, P4.out.b6] at h; cases h
        have EA := hid ((Below.heap_setCell W4 ⟨g6, 0, none⟩ (.pointer x9) g8 n86).trans E4.out)
        generalize W4.setCell ⟨g6, 0, none⟩ (.pointer x9) = WA at *
        obtain ⟨c0, c1, c2, c3⟩ := four_cells EA.out
        have c4 := free_all EA.out
        refine wpLate_step (i := 16) (by kernel_rfl) rfl rfl fun K hK => ?_
        go_simp
        refine hK _ _ (fun _ h => by cases h) ?_
        clear hK K c0 c1 c2 c3 c4
        obtain ⟨s1, s2, s3⟩ := set_four EA.out (.int .i64 qs) (.int .i64 qo) (.int .i64 ql) (.int .i64 qn)
        have PB := hid (PA.out.other EA.out l8 s3 s2 rfl rfl rfl)
        have EB := hid s1
        clear s1 s2 s3
        generalize (((WA.setCell ⟨g8, 0, none⟩ (.int .i64 qs)).setCell ⟨g8, 1, none⟩ (.int .i64 qo)).setCell ⟨g8, 2, none⟩ (.int .i64 ql)).setCell ⟨g8, 3, none⟩ (.int .i64 qn) = WB at *
        refine wpLate_step (i := 17) (by kernel_rfl) rfl rfl fun K hK => ?_
        go_simp
        refine hK _ _ (fun _ h => by cases h) ?_
        clear hK K
        refine wpLate_done (by kernel_rfl) ?_
        obtain ⟨pw1, pw2, pw3, pw4, pw5, pw6⟩ := put_pure HCT.out JR.out hw.out hg.out HL.out hz.out hA.out
        have hq : fitB ql qn = true := by simpa [fitB, Pc.fit] using pw6
        have hjn := hid (fun W (h1 : At W T' x9) (h2 : At W U y) => Join_fit T' U x9 y qs qo ql qn W hq (hid pw5) (hid pw1) (hid pw2) h1 h2)
        obtain ⟨c0, f0⟩ := box_cell PB.out.b6
        obtain ⟨c1, f1⟩ := box_cell PB.out.b7
        obtain ⟨d0, d1, d2, d3⟩ := four_cells EB.out
        go_wp2_with (first
          | (go_at_call 13; refine (hjn.out _ PB.out.tx PB.out.uy).mono ?_; rintro e1 w1 ⟨z, rfl, hz1, hb1⟩; have PC := hid (PB.out.below hb1); have Z1 := hid hz1; clear hb1 hz1 c0 f0 c1 f1 d0 d1 d2 d3; obtain ⟨c0, c1, c2, f0, f1, f2⟩ := sh_cells PC.out.here))
        obtain ⟨F1, F2⟩ := PC.out.fin (e' := e + 1) hSh.out.lo Z1.out
        go_end0
        exact ⟨⟨_, rfl⟩, z, va7, _, ⟨T, U, T', _, b9, HCT.out, JR.out, rfl⟩, F1, F2, PC.out.own⟩
    · go_simp
      refine hK _ _ (fun _ _ => (P7.out.below (bAlloc (Below.refl _ _) (.cells #[.int .i64 0, .int .i64 0, .int .i64 0, .int .i64 0] 32))).cells) ?_
      clear hK K
      have P6 := hid (P7.out.below (bAlloc (Below.refl _ _) (.cells #[.int .i64 0, .int .i64 0, .int .i64 0, .int .i64 0] 32)))
      have E6 := hid (World.alloc_heap_new W7 (.cells #[.int .i64 0, .int .i64 0, .int .i64 0, .int .i64 0] 32))
      have l8 : w.heap.size ≤ W7.heap.size := P7.out.chg.size
      obtain ⟨g8, hg8⟩ : ∃ g8, W7.heap.size = g8 := ⟨_, rfl⟩
      rw [hg8] at E6 l8 ⊢
      generalize W7.alloc (.cells #[.int .i64 0, .int .i64 0, .int .i64 0, .int .i64 0] 32) = W6 at *
      refine wpLate_step (i := 8) (by kernel_rfl) rfl rfl fun K hK => ?_
      go_simp
      refine (hpc.out W6 P6.out.shb).mono ?_
      rintro e8 W5 ⟨rfl, hb8⟩
      have P5 := hid (P6.out.below hb8)
      have E5 := hid ((hb8.block _ (sh_lt E6.out)).trans E6.out)
      refine hK _ _ (fun _ _ => P5.out.cells) ?_
      clear hK K hb8
      refine wpLate_step (i := 9) (by kernel_rfl) rfl rfl fun K hK => ?_
      go_simp
      refine (hjl.out W5 P5.out.tx).mono ?_
      rintro e9 W4 ⟨T', ⟨qs, qo, ql, qn⟩, b9, hjr, x9, rfl, hx9, hb9⟩
      simp only [Pc.v]
      have P4 := hid (P5.out.below hb9)
      have X9 := hid hx9
      have JR := hid hjr
      have E4 := hid ((hb9.block _ (sh_lt E5.out)).trans E5.out)
      refine hK _ _ (fun _ _ => P4.out.cells) ?_
      clear hK K hb9 hx9 hjr
      refine wpLate_any (i := 10) (v := .tuple #[.agg #[.pointer x9], .agg #[.int .i64 qs, .int .i64 qo, .int .i64 ql, .int .i64 qn], .bool b9]) rfl (by kernel_rfl) (by kernel_rfl) (by kernel_rfl) (by decide) (fun _ _ _ h => h) (.inl ⟨rfl, fun w' _ => by go_simp⟩) (fun _ => P4.out.cells) ?_
      refine wpLate_any (i := 11) (v := .agg #[.pointer x9]) rfl (by kernel_rfl) (by kernel_rfl) (by kernel_rfl) (by decide) (fun _ _ _ h => h) (.inl ⟨rfl, fun w' _ => by go_simp⟩) (fun _ => P4.out.cells) ?_
      refine wpLate_any (i := 12) (v := .agg #[.int .i64 qs, .int .i64 qo, .int .i64 ql, .int .i64 qn]) rfl (by kernel_rfl) (by kernel_rfl) (by kernel_rfl) (by decide) (fun _ _ _ h => h) (.inl ⟨rfl, fun w' _ => by go_simp⟩) (fun _ => P4.out.cells) ?_
      refine wpLate_any (i := 13) (v := .bool b9) rfl (by kernel_rfl) (by kernel_rfl) (by kernel_rfl) (by decide) (fun _ _ _ h => h) (.inl ⟨rfl, fun w' _ => by go_simp⟩) (fun _ => P4.out.cells) ?_
      obtain ⟨c0, f0⟩ := box_cell P4.out.b6
      refine wpLate_step (i := 15) (by kernel_rfl) rfl rfl fun K hK => ?_
      go_simp
      refine hK _ _ (fun h => absurd rfl h) ?_
      clear hK K c0 f0
      have PA := hid (P4.out.set6 X9.out)
      have n86 : g8 ≠ g6 := fun e => by have h := E4.out; rw [e, P4.out.b6] at h; cases h
      have EA := hid ((Below.heap_setCell W4 ⟨g6, 0, none⟩ (.pointer x9) g8 n86).trans E4.out)
      generalize W4.setCell ⟨g6, 0, none⟩ (.pointer x9) = WA at *
      obtain ⟨c0, c1, c2, c3⟩ := four_cells EA.out
      have c4 := free_all EA.out
      refine wpLate_step (i := 16) (by kernel_rfl) rfl rfl fun K hK => ?_
      go_simp
      refine hK _ _ (fun _ h => by cases h) ?_
      clear hK K c0 c1 c2 c3 c4
      obtain ⟨s1, s2, s3⟩ := set_four EA.out (.int .i64 qs) (.int .i64 qo) (.int .i64 ql) (.int .i64 qn)
      have PB := hid (PA.out.other EA.out l8 s3 s2 rfl rfl rfl)
      have EB := hid s1
      clear s1 s2 s3
      generalize (((WA.setCell ⟨g8, 0, none⟩ (.int .i64 qs)).setCell ⟨g8, 1, none⟩ (.int .i64 qo)).setCell ⟨g8, 2, none⟩ (.int .i64 ql)).setCell ⟨g8, 3, none⟩ (.int .i64 qn) = WB at *
      refine wpLate_step (i := 17) (by kernel_rfl) rfl rfl fun K hK => ?_
      go_simp
      refine hK _ _ (fun _ h => by cases h) ?_
      clear hK K
      refine wpLate_done (by kernel_rfl) ?_
      obtain ⟨pw1, pw2, pw3, pw4, pw5, pw6⟩ := put_pure HCT.out JR.out hw.out hg.out HL.out hz.out hA.out
      have hq : fitB ql qn = true := by simpa [fitB, Pc.fit] using pw6
      have hjn := hid (fun W (h1 : At W T' x9) (h2 : At W U y) => Join_fit T' U x9 y qs qo ql qn W hq (hid pw5) (hid pw1) (hid pw2) h1 h2)
      obtain ⟨c0, f0⟩ := box_cell PB.out.b6
      obtain ⟨c1, f1⟩ := box_cell PB.out.b7
      obtain ⟨d0, d1, d2, d3⟩ := four_cells EB.out
      go_wp2_with (first
        | (go_at_call 13; refine (hjn.out _ PB.out.tx PB.out.uy).mono ?_; rintro e1 w1 ⟨z, rfl, hz1, hb1⟩; have PC := hid (PB.out.below hb1); have Z1 := hid hz1; clear hb1 hz1 c0 f0 c1 f1 d0 d1 d2 d3; obtain ⟨c0, c1, c2, f0, f1, f2⟩ := sh_cells PC.out.here))
      obtain ⟨F1, F2⟩ := PC.out.fin (e' := e + 1) hSh.out.lo Z1.out
      go_end0
      exact ⟨⟨_, rfl⟩, z, va7, _, ⟨T, U, T', _, b9, HCT.out, JR.out, rfl⟩, F1, F2, PC.out.own⟩
  · go_simp
    refine hK _ _ (fun _ _ => (P8.out.below (bAlloc (Below.refl _ _) (.cells #[.int .i64 0, .int .i64 0, .int .i64 0, .int .i64 0] 32))).cells) ?_
    clear hK K
    have P7 := hid (P8.out.below (bAlloc (Below.refl _ _) (.cells #[.int .i64 0, .int .i64 0, .int .i64 0, .int .i64 0] 32)))
    have V7 := hid (V8.out.keep (bAlloc (Below.refl _ _) (.cells #[.int .i64 0, .int .i64 0, .int .i64 0, .int .i64 0] 32)))
    have E7 := hid (World.alloc_heap_new W (.cells #[.int .i64 0, .int .i64 0, .int .i64 0, .int .i64 0] 32))
    have l8 : w.heap.size ≤ W.heap.size := P8.out.chg.size
    obtain ⟨g8, hg8⟩ : ∃ g8, W.heap.size = g8 := ⟨_, rfl⟩
    rw [hg8] at E7 l8 ⊢
    generalize W.alloc (.cells #[.int .i64 0, .int .i64 0, .int .i64 0, .int .i64 0] 32) = W7 at *
    refine wpLate_step (i := 7) (by kernel_rfl) rfl rfl fun K hK => ?_
    go_simp
    refine (Ab.add_any (.slice (some ad) l.length c) bb vo va O A base l W7 P7.out.buf (by have := hA.out; omega) V7.out).mono ?_
    rintro e7 W6 ⟨va7, rfl, hbuf7, ht7, ho7⟩
    have P6 := hid (P7.out.touch rfl hbuf7 ht7 ho7)
    have E6 := hid (touch_same P7.out.buf ht7 E7.out (by decide) (by decide))
    refine hK _ _ (fun _ _ => P6.out.cells) ?_
    clear hK K hbuf7 ht7 ho7
    refine wpLate_step (i := 8) (by kernel_rfl) rfl rfl fun K hK => ?_
    go_simp
    refine (hpc.out W6 P6.out.shb).mono ?_
    rintro e8 W5 ⟨rfl, hb8⟩
    have P5 := hid (P6.out.below hb8)
    have E5 := hid ((hb8.block _ (sh_lt E6.out)).trans E6.out)
    refine hK _ _ (fun _ _ => P5.out.cells) ?_
    clear hK K hb8
    refine wpLate_step (i := 9) (by kernel_rfl) rfl rfl fun K hK => ?_
    go_simp
    refine (hjl.out W5 P5.out.tx).mono ?_
    rintro e9 W4 ⟨T', ⟨qs, qo, ql, qn⟩, b9, hjr, x9, rfl, hx9, hb9⟩
    simp only [Pc.v]
    have P4 := hid (P5.out.below hb9)
    have X9 := hid hx9
    have JR := hid hjr
    have E4 := hid ((hb9.block _ (sh_lt E5.out)).trans E5.out)
    refine hK _ _ (fun _ _ => P4.out.cells) ?_
    clear hK K hb9 hx9 hjr
    refine wpLate_any (i := 10) (v := .tuple #[.agg #[.pointer x9], .agg #[.int .i64 qs, .int .i64 qo, .int .i64 ql, .int .i64 qn], .bool b9]) rfl (by kernel_rfl) (by kernel_rfl) (by kernel_rfl) (by decide) (fun _ _ _ h => h) (.inl ⟨rfl, fun w' _ => by go_simp⟩) (fun _ => P4.out.cells) ?_
    refine wpLate_any (i := 11) (v := .agg #[.pointer x9]) rfl (by kernel_rfl) (by kernel_rfl) (by kernel_rfl) (by decide) (fun _ _ _ h => h) (.inl ⟨rfl, fun w' _ => by go_simp⟩) (fun _ => P4.out.cells) ?_
    refine wpLate_any (i := 12) (v := .agg #[.int .i64 qs, .int .i64 qo, .int .i64 ql, .int .i64 qn]) rfl (by kernel_rfl) (by kernel_rfl) (by kernel_rfl) (by decide) (fun _ _ _ h => h) (.inl ⟨rfl, fun w' _ => by go_simp⟩) (fun _ => P4.out.cells) ?_
    refine wpLate_any (i := 13) (v := .bool b9) rfl (by kernel_rfl) (by kernel_rfl) (by kernel_rfl) (by decide) (fun _ _ _ h => h) (.inl ⟨rfl, fun w' _ => by go_simp⟩) (fun _ => P4.out.cells) ?_
    obtain ⟨c0, f0⟩ := box_cell P4.out.b6
    refine wpLate_step (i := 15) (by kernel_rfl) rfl rfl fun K hK => ?_
    go_simp
    refine hK _ _ (fun h => absurd rfl h) ?_
    clear hK K c0 f0
    have PA := hid (P4.out.set6 X9.out)
    have n86 : g8 ≠ g6 := fun e => by have h := E4.out; rw [e, P4.out.b6] at h; cases h
    have EA := hid ((Below.heap_setCell W4 ⟨g6, 0, none⟩ (.pointer x9) g8 n86).trans E4.out)
    generalize W4.setCell ⟨g6, 0, none⟩ (.pointer x9) = WA at *
    obtain ⟨c0, c1, c2, c3⟩ := four_cells EA.out
    have c4 := free_all EA.out
    refine wpLate_step (i := 16) (by kernel_rfl) rfl rfl fun K hK => ?_
    go_simp
    refine hK _ _ (fun _ h => by cases h) ?_
    clear hK K c0 c1 c2 c3 c4
    obtain ⟨s1, s2, s3⟩ := set_four EA.out (.int .i64 qs) (.int .i64 qo) (.int .i64 ql) (.int .i64 qn)
    have PB := hid (PA.out.other EA.out l8 s3 s2 rfl rfl rfl)
    have EB := hid s1
    clear s1 s2 s3
    generalize (((WA.setCell ⟨g8, 0, none⟩ (.int .i64 qs)).setCell ⟨g8, 1, none⟩ (.int .i64 qo)).setCell ⟨g8, 2, none⟩ (.int .i64 ql)).setCell ⟨g8, 3, none⟩ (.int .i64 qn) = WB at *
    refine wpLate_step (i := 17) (by kernel_rfl) rfl rfl fun K hK => ?_
    go_simp
    refine hK _ _ (fun _ h => by cases h) ?_
    clear hK K
    refine wpLate_done (by kernel_rfl) ?_
    obtain ⟨pw1, pw2, pw3, pw4, pw5, pw6⟩ := put_pure HCT.out JR.out hw.out hg.out HL.out hz.out hA.out
    have hq : fitB ql qn = true := by simpa [fitB, Pc.fit] using pw6
    have hjn := hid (fun W (h1 : At W T' x9) (h2 : At W U y) => Join_fit T' U x9 y qs qo ql qn W hq (hid pw5) (hid pw1) (hid pw2) h1 h2)
    obtain ⟨c0, f0⟩ := box_cell PB.out.b6
    obtain ⟨c1, f1⟩ := box_cell PB.out.b7
    obtain ⟨d0, d1, d2, d3⟩ := four_cells EB.out
    go_wp2_with (first
      | (go_at_call 13; refine (hjn.out _ PB.out.tx PB.out.uy).mono ?_; rintro e1 w1 ⟨z, rfl, hz1, hb1⟩; have PC := hid (PB.out.below hb1); have Z1 := hid hz1; clear hb1 hz1 c0 f0 c1 f1 d0 d1 d2 d3; obtain ⟨c0, c1, c2, f0, f1, f2⟩ := sh_cells PC.out.here))
    obtain ⟨F1, F2⟩ := PC.out.fin (e' := e + 1) hSh.out.lo Z1.out
    go_end0
    exact ⟨⟨_, rfl⟩, z, va7, _, ⟨T, U, T', _, b9, HCT.out, JR.out, rfl⟩, F1, F2, PC.out.own⟩

end Go.Proofs.Ytpifjghhlcjedaa

