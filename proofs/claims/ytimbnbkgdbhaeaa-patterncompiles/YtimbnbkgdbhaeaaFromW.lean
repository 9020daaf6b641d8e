/- PatternFrom, walked. -/
import Derived.Test.YtimbnbkgdbhaeaaAlv
namespace Go.Proofs.Ytimbnbkgdbhaeaa
open Go.RowKit
theorem FI.off {l : List Th} {line : List UInt8} {f : Int} {a b : Nat} (h : FI l line f a b false) : a = 0 ∧ b = 0 := by
  rcases h with ⟨_, h1, h2, _⟩ | ⟨_, _, h | h⟩
  · exact ⟨h1, h2⟩
  · cases h.1
  · exact ⟨h.2.1, h.2.2.1⟩
theorem FI.on {l : List Th} {line : List UInt8} {f : Int} {a b : Nat} (h : FI l line f a b true) : 0 ≤ f ∧ f ≤ a ∧ a ≤ b ∧ b ≤ line.length := by
  rcases h with ⟨_, _, _, h⟩ | ⟨h0, h1, h | h⟩
  · cases h
  · obtain ⟨_, h2, h3, h4, _⟩ := h
    exact ⟨h0, by omega, h3, h4⟩
  · cases h.1
theorem FI.none {l : List Th} {line : List UInt8} {f g : Int} {a b x y : Nat} {is : Bool} (h : FI l line f a b false) (h0 : 0 ≤ f) (hg : f ≤ g) (h' : FI l line g x y is) : is = false := by
  rcases h' with ⟨_, _, _, h'⟩ | ⟨g0, g1, h' | h'⟩
  · exact h'
  · obtain ⟨_, h2, h3, h4, h5, _⟩ := h'
    rcases h with ⟨h, _⟩ | ⟨_, _, h | h⟩
    · omega
    · cases h.1
    · have := h.2.2.2 x (by omega) y h4
      rw [h5] at this; cases this
  · exact h'.1
theorem FI.same {l : List Th} {line : List UInt8} {f g : Int} {a b x y : Nat} {is : Bool} (h : FI l line f a b true) (hg : f ≤ g) (hg2 : g ≤ a) (h' : FI l line g x y is) : x = a ∧ y = b ∧ is = true := by
  have hon := h.on
  have : FI l line g a b true := by
    rcases h with ⟨_, _, _, h⟩ | ⟨h0, h1, h | h⟩
    · cases h
    · obtain ⟨e, h2, h3, h4, h5, h6, h7⟩ := h
      exact .inr ⟨by omega, by omega, .inl ⟨e, by omega, h3, h4, h5, fun s a1 a2 => h6 s (by omega) a2, h7⟩⟩
    · cases h.1
  exact h'.one this

set_option maxRecDepth 8000 in
set_option maxHeartbeats 8000000 in
theorem patternFrom_walk (w : World) (ap : Option Addr) (np cp : Nat) (al : Option Addr) (nl cl : Nat) (p line : List UInt8) (f g : Int) (HP : Hid (Tx w ap np cp p)) (HL : Hid (Tx w al nl cl line)) :
    Calls Try.prog 7 #[.agg #[.slice ap np cp, .slice al nl cl, .int .i64 f, .int .i64 g]] w fun e w' => e = .returned (.bool true) ∧ Below w.heap.size w w' := by
  have hlen := HL.out.len
  go_enter Try.func7, Try.ntmps7
  have K0 := Hid.mk' (Blk.new w 46 #[.slice ap np cp, .slice al nl cl, .int .i64 f, .int .i64 g])
  go_wp2_with (go_at_call 9; refine (alive_any _).mono ?_; rintro e w1 ⟨rfl, hb1⟩; have B1 := Hid.mk' (bT (bAlloc (Below.refl _ _) _) hb1); have K1 := Hid.mk' (K0.out.keep hb1); clear hb1 K0)
  have c0 : w1.cell? ⟨w.heap.size, 0, none⟩ = some (.slice ap np cp) := K1.out.cell (j := 0) rfl
  have c1 : w1.cell? ⟨w.heap.size, 1, none⟩ = some (.slice al nl cl) := K1.out.cell (j := 1) rfl
  have c2 : w1.cell? ⟨w.heap.size, 2, none⟩ = some (.int .i64 f) := K1.out.cell (j := 2) rfl
  have c3 : w1.cell? ⟨w.heap.size, 3, none⟩ = some (.int .i64 g) := K1.out.cell (j := 3) rfl
  go_quiet (fail)
  have B2 := Hid.mk' (bT B1.out (bDrewN _ nq))
  clear K1 c0 c1 c2 c3 B1
  generalize w1.drewN nq = w2 at *
  go_wp2_with fail
  refine (compile_any ap np cp p w2 (HP.out.keep B2.out)).mono ?_
  intro e w3 hC
  obtain ⟨hb3, h | h | h⟩ := hC
  · obtain ⟨_, rfl⟩ := h
    go_wp2
    go_ret
    exact ⟨rfl, bT B2.out hb3⟩
  · obtain ⟨_, hc, rfl⟩ := h
    go_wp2
    go_ret
    exact ⟨rfl, bT B2.out hb3⟩
  · obtain ⟨_, _, hl, P, rfl, hP⟩ := h
    have B3 := Hid.mk' (bT B2.out hb3)
    have HPt := Hid.mk' hP
    clear hb3 hP B2
    generalize hLL : (cmp p).2 = L at *
    clear hLL
    have hL : L.length ≤ 256 := by omega
    go_wp2_with fail
    refine (find_any _ w3 P L al nl cl line f hL HPt (HL.out.keep B3.out)).mono ?_
    rintro e w4 ⟨a, b, ok, rfl, hfi, hb4⟩
    have B4 := Hid.mk' (bT B3.out hb4)
    have HP4 := Hid.mk' (HPt.out.keep hb4)
    have HF := Hid.mk' hfi
    clear hb4 B3 HPt hfi
    cases ok with
    | false =>
      obtain ⟨ha, hb⟩ := HF.out.off
      subst ha hb
      by_cases h0 : 0 ≤ f
      · by_cases h1 : f ≤ g
        · go_wp2_with fail
          refine (find_any _ w4 P L al nl cl line g hL HP4 (HL.out.keep B4.out)).mono ?_
          rintro e w5 ⟨x, y, is, rfl, hfi, hb5⟩
          have := HF.out.none h0 h1 hfi
          subst this
          have B5 := Hid.mk' (bT B4.out hb5)
          clear hb5 hfi
          go_wp2
          go_ret
          exact ⟨rfl, B5.out⟩
        · have h1' : decide (f ≤ g) = false := decide_eq_false h1
          go_wp2
          go_ret
          exact ⟨rfl, B4.out⟩
      · have h0' : decide (0 ≤ f) = false := decide_eq_false h0
        go_wp2
        go_ret
        exact ⟨rfl, B4.out⟩
    | true =>
      obtain ⟨f0, f1, f2, f3⟩ := HF.out.on
      have f1' : ¬ ((a : Int) < f) := by omega
      have f1d : decide ((a : Int) < f) = false := decide_eq_false f1'
      have f2' : ¬ ((b : Int) < (a : Int)) := by omega
      have f2d : decide ((b : Int) < (a : Int)) = false := decide_eq_false f2'
      have f3' : ¬ ((nl : Int) < (b : Int)) := by omega
      have f3d : decide ((nl : Int) < (b : Int)) = false := decide_eq_false f3'
      have f0' : ¬ (f < 0) := by omega
      have f0d : decide (f < 0) = false := decide_eq_false f0'
      by_cases h1 : f ≤ g
      · by_cases h2 : g ≤ (a : Int)
        · go_wp2_with fail
          refine (find_any _ w4 P L al nl cl line g hL HP4 (HL.out.keep B4.out)).mono ?_
          rintro e w5 ⟨x, y, is, rfl, hfi, hb5⟩
          obtain ⟨e1, e2, e3⟩ := HF.out.same h1 h2 hfi
          subst e1 e2 e3
          have B5 := Hid.mk' (bT B4.out hb5)
          clear hb5 hfi
          go_wp2
          go_ret
          exact ⟨rfl, B5.out⟩
        · have h2' : decide (g ≤ (a : Int)) = false := decide_eq_false h2
          have h3 : (a : Int) < g := by omega
          go_wp2_with fail
          refine (find_any _ w4 P L al nl cl line g hL HP4 (HL.out.keep B4.out)).mono ?_
          rintro e w5 ⟨x, y, is, rfl, hfi, hb5⟩
          have B5 := Hid.mk' (bT B4.out hb5)
          have hge : is = true → g ≤ (x : Int) := fun e => by subst e; exact hfi.on.2.1
          clear hb5 hfi
          cases is with
          | false =>
            go_wp2
            go_ret
            exact ⟨rfl, B5.out⟩
          | true =>
            have hge' : g ≤ (x : Int) := hge rfl
            go_wp2
            go_ret
            exact ⟨rfl, B5.out⟩
      · have h1' : decide (f ≤ g) = false := decide_eq_false h1
        have h3 : ¬ ((a : Int) < g) := by omega
        go_wp2
        go_ret
        exact ⟨rfl, B4.out⟩
end Go.Proofs.Ytimbnbkgdbhaeaa
