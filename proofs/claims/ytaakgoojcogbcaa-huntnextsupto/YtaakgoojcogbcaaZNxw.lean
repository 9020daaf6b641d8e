/- HuntNexts, walked. -/
import Derived.Test.YtaakgoojcogbcaaZRnx
namespace Go.Proofs.Ytaakgoojcogbcaa
open Go.RowKit
set_option maxRecDepth 8000 in
set_option maxHeartbeats 4000000 in
theorem next_nil (w : World) (ao : Option Addr) (n c : Nat) (k C : Int) (back : Bool) :
    Calls Try.prog 19 #[.slice ao n c, .int .i64 k, .int .i64 C, .pointer none, .bool back] w fun e w' => NeP (tg 0 0 0 2) w e w' := by
  have CI := Hid.mk' (fun W => hisPlace_any ao n c k W)
  obtain ⟨D, HD⟩ : ∃ D, Hid (decide (0 ≤ k ∧ k ≤ (n : Int)) = D) := ⟨_, rfl⟩
  rw [HD.out] at CI
  cases D with
  | false =>
    go_enter Try.func19, Try.ntmps19
    go_wp2_with (go_at_call 35; refine (CI.out _).mono ?_; rintro e w' ⟨rfl, hw⟩; subst hw)
    exact bodyPost_ret (v := .tuple #[.agg #[.int .i64 0, .int .i64 0, .int .i64 0], .int .i64 2]) (by simp [results, Try.results19, go_sem]) rfl ⟨rfl, by first | exact bAlloc (Below.refl _ _) _ | exact bset (bset (bset (bAlloc (Below.refl _ _) _) _ (by simp)) _ (by simp)) _ (by simp)⟩
  | true =>
    by_cases hC0 : C < 0
    · have hC0' : decide (C < 0) = true := decide_eq_true hC0
      go_enter Try.func19, Try.ntmps19
      go_wp2_with (go_at_call 35; refine (CI.out _).mono ?_; rintro e w' ⟨rfl, hw⟩; subst hw)
      exact bodyPost_ret (v := .tuple #[.agg #[.int .i64 0, .int .i64 0, .int .i64 0], .int .i64 2]) (by simp [results, Try.results19, go_sem]) rfl ⟨rfl, by first | exact bAlloc (Below.refl _ _) _ | exact bset (bset (bset (bAlloc (Below.refl _ _) _) _ (by simp)) _ (by simp)) _ (by simp)⟩
    · have hC0' : decide (C < 0) = false := decide_eq_false hC0
      by_cases hC1 : 9999 < C
      · have hC1' : decide (9999 < C) = true := decide_eq_true hC1
        go_enter Try.func19, Try.ntmps19
        go_wp2_with (go_at_call 35; refine (CI.out _).mono ?_; rintro e w' ⟨rfl, hw⟩; subst hw)
        exact bodyPost_ret (v := .tuple #[.agg #[.int .i64 0, .int .i64 0, .int .i64 0], .int .i64 2]) (by simp [results, Try.results19, go_sem]) rfl ⟨rfl, by first | exact bAlloc (Below.refl _ _) _ | exact bset (bset (bset (bAlloc (Below.refl _ _) _) _ (by simp)) _ (by simp)) _ (by simp)⟩
      · have hC1' : decide (9999 < C) = false := decide_eq_false hC1
        go_enter Try.func19, Try.ntmps19
        go_wp2_with (go_at_call 35; refine (CI.out _).mono ?_; rintro e w' ⟨rfl, hw⟩; subst hw)
        exact bodyPost_ret (v := .tuple #[.agg #[.int .i64 0, .int .i64 0, .int .i64 0], .int .i64 2]) (by simp [results, Try.results19, go_sem]) rfl ⟨rfl, by first | exact bAlloc (Below.refl _ _) _ | exact bset (bset (bset (bAlloc (Below.refl _ _) _) _ (by simp)) _ (by simp)) _ (by simp)⟩
/-- an answer of Next, as plain numbers -/
theorem nxE_tg (l : List Th) (t : List UInt8) (k C : Int) (b : Bool) : ∃ x0 x1 x2 x3 : Int, nxE l t k C b = tg x0 x1 x2 x3 := by
  unfold nxE
  split
  · split
    · exact ⟨_, _, _, _, rfl⟩
    · exact ⟨_, _, _, _, rfl⟩
  · exact ⟨_, _, _, _, rfl⟩
set_option maxRecDepth 8000 in
set_option maxHeartbeats 16000000 in
theorem huntNexts_walk (HSC : SearchC) (w : World) (ao : Option Addr) (n c : Nat) (ap : Option Addr) (np cp_ : Nat) (k C : Int) (b : Bool) (t p : List UInt8) (hn : n ≤ 1048576) (HT : Hid (Tx w ao n c t)) (HP : Hid (Tx w ap np cp_ p)) :
    Calls Try.prog 5 #[.agg #[.slice ao n c, .slice ap np cp_, .int .i64 k, .int .i64 C, .bool b]] w fun e w' => e = .returned (.bool true) ∧ Below w.heap.size w w' := by
  have hlen := HT.out.len
  have U0 := Hid.mk' (bAlloc (Below.refl _ w) (.cells #[.slice ao n c, .slice ap np cp_, .int .i64 k, .int .i64 C, .bool b] 40))
  have K0 := Hid.mk' (Blk.new w 40 #[.slice ao n c, .slice ap np cp_, .int .i64 k, .int .i64 C, .bool b])
  go_enter Try.func5, Try.ntmps5
  go_wp2_with fail
  refine (awake_any _).mono ?_
  rintro e w1 ⟨rfl, hb1⟩
  have U1 := Hid.mk' (bT U0.out hb1)
  have K1 := Hid.mk' (K0.out.keep hb1)
  clear hb1 U0 K0
  have c0 : w1.cell? ⟨w.heap.size, 0, none⟩ = some (.slice ao n c) := K1.out.cell (j := 0) rfl
  have c2 : w1.cell? ⟨w.heap.size, 2, none⟩ = some (.int .i64 k) := K1.out.cell (j := 2) rfl
  have c3 : w1.cell? ⟨w.heap.size, 3, none⟩ = some (.int .i64 C) := K1.out.cell (j := 3) rfl
  have c4 : w1.cell? ⟨w.heap.size, 4, none⟩ = some (.bool b) := K1.out.cell (j := 4) rfl
  go_wp2_with fail
  refine (next_nil w1 ao n c k C b).mono ?_
  rintro e w2 ⟨rfl, hb2⟩
  have U2 := Hid.mk' (bAlloc (bT U1.out hb2) (.cells #[.int .i64 0, .int .i64 0, .int .i64 0] 42))
  have K2 := Hid.mk' ((K1.out.keep hb2).keep (bAlloc (Below.refl _ _) (.cells #[.int .i64 0, .int .i64 0, .int .i64 0] 42)))
  clear hb2 c0 c2 c3 c4 K1
  rw [tg_def]
  have hc : ∀ j x, (#[.slice ao n c, .slice ap np cp_, .int .i64 k, .int .i64 C, .bool b] : Array Value)[j]? = some x → (w2.alloc (.cells #[.int .i64 0, .int .i64 0, .int .i64 0] 42)).cell? ⟨w.heap.size, j, none⟩ = some x := fun j x hx => K2.out.cell hx
  have d0 := hc 0 _ rfl
  have d1 := hc 1 _ rfl
  have d2 := hc 2 _ rfl
  have d3 := hc 3 _ rfl
  have d4 := hc 4 _ rfl
  go_wp2_with fail
  refine (compiled_any _ (.slice ao n c) ap np cp_ k C b p (HP.out.keep U2.out)).mono ?_
  rintro e w3 ⟨hb3, hres⟩
  have U3 := Hid.mk' (bT U2.out hb3)
  have K3 := Hid.mk' (K2.out.keep hb3)
  clear hb3 K2 d0 d1 d2 d3 d4 hc
  have d1 : w3.cell? ⟨w.heap.size, 1, none⟩ = some (.slice ap np cp_) := K3.out.cell (j := 1) rfl
  rcases hres with ⟨hg, hl, P, rfl, hP⟩ | ⟨hg, rfl⟩
  · have HLw : Hid (Lw w w3 w.heap.size _ P ao n c ap np cp_ k C b t (cmp p).2) := ⟨U3.out, Nat.le_refl _, K3.out, hP, HT.out.keep U3.out⟩
    have d0 := HLw.out.c0
    have d2 := HLw.out.c2
    have d3 := HLw.out.c3
    have d4 := HLw.out.c4
    have CR := Hid.mk' (rnext_any HSC w3 ao n c t ap np cp_ p k C b hn hg HLw.out.tx (HP.out.keep U3.out))
    obtain ⟨x0, x1, x2, x3, HE⟩ : ∃ x0 x1 x2 x3, Hid (nxE (cmp p).2 t k C b = tg x0 x1 x2 x3) := nxE_tg _ _ _ _ _
    rw [HE.out, tg_def] at CR
    clear hP K3
    go_wp2_with fail
    refine CR.out.mono ?_
    rintro e w4 ⟨rfl, hb4⟩
    have L5 := Hid.mk' ((HLw.out.keep hb4).keep (bAlloc (Below.refl _ _) (.cells #[.int .i64 x0, .int .i64 x1, .int .i64 x2] 42)))
    have K5 := Hid.mk' (Blk.new w4 42 #[.int .i64 x0, .int .i64 x1, .int .i64 x2])
    have s0 := L5.out.c0
    have s2 := L5.out.c2
    have s3 := L5.out.c3
    have s4 := L5.out.c4
    have CN := Hid.mk' (next_any _ _ P ao n c t (cmp p).2 k C b hl L5.out.pat L5.out.tx)
    rw [HE.out, tg_def] at CN
    clear hb4 CR HLw d0 d1 d2 d3 d4 U3
    go_wp2_with fail
    refine CN.out.mono ?_
    rintro e w6 ⟨rfl, hb6⟩
    have L7 := Hid.mk' ((L5.out.keep hb6).keep (bAlloc (Below.refl _ _) (.cells #[.int .i64 x0, .int .i64 x1, .int .i64 x2] 42)))
    have K7 := Hid.mk' ((K5.out.keep hb6).keep (bAlloc (Below.refl _ _) (.cells #[.int .i64 x0, .int .i64 x1, .int .i64 x2] 42)))
    have K8 := Hid.mk' (Blk.new w6 42 #[.int .i64 x0, .int .i64 x1, .int .i64 x2])
    obtain ⟨w8, HW8⟩ : ∃ w8, Hid (w6.alloc (.cells #[.int .i64 x0, .int .i64 x1, .int .i64 x2] 42) = w8) := ⟨_, rfl⟩
    have f0 : (w6.alloc (.cells #[.int .i64 x0, .int .i64 x1, .int .i64 x2] 42)).cell? ⟨w4.heap.size, 0, none⟩ = some (.int .i64 x0) := K7.out.cell (j := 0) rfl
    have f1 : (w6.alloc (.cells #[.int .i64 x0, .int .i64 x1, .int .i64 x2] 42)).cell? ⟨w4.heap.size, 1, none⟩ = some (.int .i64 x1) := K7.out.cell (j := 1) rfl
    have f2 : (w6.alloc (.cells #[.int .i64 x0, .int .i64 x1, .int .i64 x2] 42)).cell? ⟨w4.heap.size, 2, none⟩ = some (.int .i64 x2) := K7.out.cell (j := 2) rfl
    have g0 : (w6.alloc (.cells #[.int .i64 x0, .int .i64 x1, .int .i64 x2] 42)).cell? ⟨w6.heap.size, 0, none⟩ = some (.int .i64 x0) := K8.out.cell (j := 0) rfl
    have g1 : (w6.alloc (.cells #[.int .i64 x0, .int .i64 x1, .int .i64 x2] 42)).cell? ⟨w6.heap.size, 1, none⟩ = some (.int .i64 x1) := K8.out.cell (j := 1) rfl
    have g2 : (w6.alloc (.cells #[.int .i64 x0, .int .i64 x1, .int .i64 x2] 42)).cell? ⟨w6.heap.size, 2, none⟩ = some (.int .i64 x2) := K8.out.cell (j := 2) rfl
    clear hb6 CN L5 K5 s0 s2 s3 s4 K7 K8 HW8
    go_wp2
    go_ret
    exact ⟨rfl, L7.out.bel⟩
  · have CR := Hid.mk' (compiles_any w3 ap np cp_ p (HP.out.keep U3.out))
    go_wp2_with fail
    refine CR.out.mono ?_
    rintro e w4 ⟨hb4, r, rfl, hr⟩
    have hr0 : (r != 0) = true := by
      have : r ≠ 0 := fun e => hg (hr.1 e)
      simpa using this
    clear hr
    go_wp2
    go_ret
    exact ⟨rfl, bT U3.out hb4⟩
end Go.Proofs.Ytaakgoojcogbcaa
