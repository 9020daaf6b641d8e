/- The search's from: one place after the other. -/
import Derived.Test.YtaakgoojcogbcaaXk
import Derived.Test.YtaakgoojcogbcaaRea
namespace Go.Proofs.Ytaakgoojcogbcaa
open Go.RowKit
theorem Pn_N0 {l : List Th} {line : List UInt8} {p : Nat} {g : Nat → Nat} (h : ∀ k, g k ≤ N0) : ∀ k, Pn l line p g k ≤ N0
  | 0 => h 0
  | k + 1 => by
    unfold Pn
    have := h (k + 1)
    split <;> omega
theorem Rn_N0 {l : List Th} {b : Nat} {g : Nat → Nat} (h : ∀ k, g k ≤ N0) (k : Nat) : Rn l b g k ≤ N0 := by
  unfold Rn
  have := h k
  have := h (k - 1)
  split <;> split <;> omega
theorem ins_N0 {ok : Bool} {g : Nat → Nat} {p : Nat} (h : ∀ k, g k ≤ N0) (k : Nat) : ins ok g p k ≤ N0 := by
  unfold ins
  have := h k
  have := h 0
  split
  · omega
  · dsimp only; split <;> omega
theorem ins_self {g : Nat → Nat} {p : Nat} : ins true g p = g := by unfold ins; rw [if_pos rfl]
theorem ins_store {g : Nat → Nat} {p : Nat} : ins false g p = fun i => if i = 0 then min (g 0) p else g i := by unfold ins; rw [if_neg (by decide)]
/-- the state ahead of p, with any limit -/
def PreX (l : List Th) (line : List UInt8) (f p : Nat) (g : Nat → Nat) (a b : Nat) (ok : Bool) : Prop := ∃ lim, Pre l line f p g a b ok N0 lim
theorem PreX.passed {l : List Th} {line : List UInt8} {f p a b : Nat} {g : Nat → Nat} {ok : Bool} {a' b' : Nat} {ok' : Bool} (h : PreX l line f p g a b ok) (hp : p ≤ line.length) (hN : line.length < N0) (hg : ∀ k, g k ≤ N0) (ht : Turns p (Pn l line p (ins ok g p) l.length) a b ok a' b' ok') :
    PreX l line f (p + 1) (Rn l (bn line p) (Pn l line p (ins ok g p))) a' b' ok' ∧ (ok' = true → (∀ k, k < l.length → a' < Pn l line p (ins ok g p) k) → FS l line f a' b' ok') := by
  obtain ⟨lim, h⟩ := h
  have h1 := h.passed
  have ha : ok' = true → a' < N0 := by
    intro e
    rcases ht with ⟨r1, _, r2, _⟩ | ⟨_, r2, _, r3⟩
    · have := Pn_N0 (l := l) (line := line) (p := p) (ins_N0 (ok := ok) (p := p) hg) l.length
      omega
    · rw [r2]; have := h.on (by rw [← r3]; exact e); omega
  have h2 := h.step h1 (by omega) (Pn_N0 (ins_N0 hg) _) ht (fun _ => rfl) (fun e => ⟨ha e, Nat.le_refl _⟩) h1.read
  refine ⟨⟨_, h2⟩, fun e hd => ?_⟩
  subst e
  refine h2.dead hp h1 (fun s a1 a2 => ⟨a1, ?_, ?_⟩) (ha rfl) (ha rfl) hd
  · have := h2.on rfl; have := this.2.2.1; have := h2.on rfl; split at this <;> rename_i e
    · have := (h.on e).2.2.1; omega
    · omega
  · intro e
    have := h2.on rfl
    rw [e] at this
    simp at this
    omega
/-- the two rows, as they were or exchanged -/
def Sw (gb gn gb' gn' : Nat) : Prop := (gb' = gb ∧ gn' = gn) ∨ (gb' = gn ∧ gn' = gb)
theorem Sw.swap {gb gn gb' gn' : Nat} (h : Sw gb gn gb' gn') : Sw gb gn gn' gb' := by
  rcases h with ⟨h1, h2⟩ | ⟨h1, h2⟩
  · exact .inr ⟨h2, h1⟩
  · exact .inl ⟨h2, h1⟩
/-- from -/
def Frm (w W0 : World) (Sb gb0 gn0 : Nat) (at_ : Option Addr) (ct : Nat) (ao : Option Addr) (nl cl : Nat) (l : List Th) (line : List UInt8) (f : Nat) (e : Ending) (W' : World) : Prop :=
  ∃ a b ok gb gn g h, e = .returned (.tuple #[.int .i64 (a : Nat), .int .i64 (b : Nat), .bool ok]) ∧ FS l line f a b ok ∧ Se w W0 W' Sb gb gn at_ ct ao nl cl l g h ∧ Sw gb0 gn0 gb gn
set_option maxRecDepth 8000 in
set_option maxHeartbeats 16000000 in
theorem from_any (w W0 W : World) (Sb gb gn : Nat) (at_ : Option Addr) (ct : Nat) (ao : Option Addr) (nl cl : Nat) (l : List Th) (g h : Nat → Nat) (line : List UInt8) (f : Nat) (hf : f ≤ nl) (hl : l.length ≤ 256) (HTh : Hid (Ths w at_ l)) (HT : Hid (Tx w ao nl cl line)) (H : Hid (Se w W0 W Sb gb gn at_ ct ao nl cl l g h)) :
    Calls Try.prog 32 #[.pointer (some ⟨Sb, 0, none⟩), .int .i64 (f : Int)] W fun e W' => Frm w W0 Sb gb gn at_ ct ao nl cl l line f e W' := by
  have hlen := HT.out.len
  have hbig := HT.out.big
  have hbigN : line.length < N0 := by unfold N0; omega
  have hnb : (nl : Int) ≤ 140737488355328 := by omega
  have hl2 : (l.length : Int) ≤ 256 := by omega
  have hl3 : (l.length : Int) < (l.length : Int) + 1 := by omega
  have c2 : W.cell? ⟨Sb, 2, none⟩ = some (.slice (some ⟨gb, 0, none⟩) (l.length + 1) (l.length + 1)) := H.out.blk.cell (j := 2) rfl
  have CF := Hid.mk' (fill_any W gb (l.length + 1) g (by omega) H.out.bg)
  go_enter Try.func32, Try.ntmps32
  go_wp2_with (go_at_call 55; refine CF.out.mono ?_; rintro e w1 ⟨rfl, hg1, hk1⟩; have S1 := Hid.mk' (H.out.begun hg1 hk1); clear hg1 hk1)
  clear CF
  go_loopg [4, 5, 6, 7, 8] (nl + 1 - f) (fun m x4 x5 x6 x7 x8 wx => ∃ (p a b : Nat) (ok : Bool) (gb1 gn1 : Nat) (g1 h1 : Nat → Nat), x7 = .int .i64 (p : Int) ∧ x4 = .int .i64 (a : Int) ∧ x5 = .int .i64 (b : Int) ∧ x6 = .bool ok ∧ f ≤ p ∧ p ≤ nl ∧ m = nl + 1 - p ∧ Hid (Se w W0 wx Sb gb1 gn1 at_ ct ao nl cl l g1 h1) ∧ Hid (PreX l line f p g1 a b ok) ∧ Hid (∀ k, g1 k ≤ N0) ∧ Hid (Sw gb gn gb1 gn1))
  case atStart => exact ⟨f, 0, 0, false, gb, gn, N0s, h, rfl, rfl, rfl, rfl, Nat.le_refl _, hf, rfl, S1.out, ⟨_, Pre.start l line f⟩, fun _ => Nat.le_refl _, .inl ⟨rfl, rfl⟩⟩
  case round =>
    obtain ⟨p, a, b, ok, gb1, gn1, g1, h1, rfl, rfl, rfl, rfl, hp1, hp2, hm, HS, HPre, HN, HSw⟩ := hrel
    obtain ⟨m, rfl⟩ : ∃ m, gk = m + 1 := ⟨gk - 1, by omega⟩
    have hp2' : (p : Int) ≤ (nl : Int) := by omega
    have b1 : wr.cell? ⟨Sb, 1, none⟩ = some (.slice ao nl cl) := HS.out.blk.cell (j := 1) rfl
    have b2 : wr.cell? ⟨Sb, 2, none⟩ = some (.slice (some ⟨gb1, 0, none⟩) (l.length + 1) (l.length + 1)) := HS.out.blk.cell (j := 2) rfl
    cases ok with
    | true =>
      have CP := Hid.mk' (fun W2 H2 => pass_any w W0 W2 Sb gb1 gn1 at_ ct ao nl cl l (ins true g1 p) h1 line p hp2 hl (Hid.mk' (ins_N0 HN.out)) HTh HT H2)
      go_wp2_with fail
      refine (CP.out _ (by rw [ins_self]; exact HS.out)).mono ?_
      rintro e w2 ⟨rfl, hs2⟩
      have S2 := Hid.mk' hs2
      clear hs2 CP
      have d0 : w2.cell? ⟨Sb, 0, none⟩ = some (.slice at_ l.length ct) := S2.out.blk.cell (j := 0) rfl
      have d2 : w2.cell? ⟨Sb, 2, none⟩ = some (.slice (some ⟨gb1, 0, none⟩) (l.length + 1) (l.length + 1)) := S2.out.blk.cell (j := 2) rfl
      have dx := S2.out.bg.cell (nva_at _ (j := l.length) (by omega))
      obtain ⟨x, HX⟩ : ∃ x, Hid (Pn l line p (ins true g1 p) l.length = x) := ⟨_, rfl⟩
      rw [HX.out] at dx
      clear b1 b2
      go_wp2_with fail
      go_quiet (fail)
      have S3 := Hid.mk' (S2.out.keep (bDrewN _ nq))
      clear d0 d2 dx S2
      generalize w2.drewN nq = w3 at *
      have b1 : w3.cell? ⟨Sb, 1, none⟩ = some (.slice ao nl cl) := S3.out.blk.cell (j := 1) rfl
      have HN3 : Hid (∀ k, Pn l line p (ins true g1 p) k ≤ N0) := Pn_N0 (ins_N0 HN.out)
      have HPX := Hid.mk' (fun (a' b' : Nat) (ok' : Bool) (ht : Turns p (Pn l line p (ins true g1 p) l.length) a b true a' b' ok') => HPre.out.passed (by omega) hbigN HN.out ht)
      rw [HX.out] at HPX
      by_cases hx : x = N0
      · have hx' : ((x : Int) != 9223372036854775807) = false := by rw [hx]; rfl
        have HX2 := Hid.mk' (HPX.out a b true (.inr ⟨fun hh => hh.1 hx, rfl, rfl, rfl⟩))
        clear hx HPX
        by_cases hpn : p = nl
        · have hpn' : ((p : Int) == (nl : Int)) = true := by simp; omega
          have HD : Hid (FS l line f (a) (b) true) := by
            obtain ⟨lim, h9⟩ := HX2.out.1
            rw [show p + 1 = line.length + 1 by omega] at h9
            exact h9.done
          clear hpn HX2
          go_wp2
          go_ret3
          exact ⟨_, _, _, _, _, _, _, rfl, HD.out, S3.out, HSw.out⟩
        · have hpn' : ((p : Int) == (nl : Int)) = false := by simp; omega
          have hpl : (p : Int) < (nl : Int) := by omega
          obtain ⟨gl, ol, el, hcl⟩ := HT.out.at (by omega)
          subst el
          have cx := keepC S3.out.bel (hcl p (by omega))
          have hbx := bn_lt line p
          have cx' : w3.cell? ⟨gl, ol + p, none⟩ = some (.int .u8 (bn line p : Int)) := cx
          clear cx hcl
          have CM := Hid.mk' (may_any w W0 w3 Sb gb1 gn1 at_ ct (some ⟨gl, ol, none⟩) nl cl l (Pn l line p (ins true g1 p)) h1 (a) hl S3)
          cases hmb : mb (Pn l line p (ins true g1 p)) (a) l.length with
          | true =>
            rw [hmb] at CM
            clear hmb
            have CR := Hid.mk' (fun W2 H2 => read_any w W0 W2 Sb gb1 gn1 at_ ct (some ⟨gl, ol, none⟩) nl cl l (Pn l line p (ins true g1 p)) h1 (bn line p) hbx hl HN3 HTh H2)
            go_wp2_with (first | (go_at_call 57; with_reducible (refine CM.out.mono ?_); rintro e w4 ⟨rfl, hb4⟩; have S4 := Hid.mk' (S3.out.keep hb4); have k1 := keepC hb4 b1; have cx4 := keepC hb4 cx') | (go_at_call 58; refine (CR.out _ S4.out).mono ?_; rintro e w5 ⟨rfl, hs5⟩; have S5 := Hid.mk' hs5; clear hs5))
            go_roundg m
            case measure => omega
            case rel => exact ⟨p + 1, a, b, true, gn1, gb1, _, _, by go_num, rfl, rfl, rfl, by omega, by omega, by omega, S5.out, HX2.out.1, Rn_N0 HN3.out, HSw.out.swap⟩
          | false =>
            rw [hmb] at CM
            have HD := Hid.mk' (HX2.out.2 rfl (mb_false hmb))
            clear hmb HX2
            go_wp2_with (first | (go_at_call 57; with_reducible (refine CM.out.mono ?_); rintro e w4 ⟨rfl, hb4⟩; have S4 := Hid.mk' (S3.out.keep hb4)))
            go_ret3
            exact ⟨_, _, _, _, _, _, _, rfl, HD.out, S4.out, HSw.out⟩
      · have hx' : ((x : Int) != 9223372036854775807) = true := by
          have : (x : Int) ≠ 9223372036854775807 := fun e => hx (by unfold N0; omega)
          simpa using this
        by_cases hxa : x ≤ a
        · have hxa' : (x : Int) ≤ (a : Int) := by omega
          have HX2 := Hid.mk' (HPX.out x p true (.inl ⟨hx, .inr hxa, rfl, rfl, rfl⟩))
          clear HPX
          by_cases hpn : p = nl
          · have hpn' : ((p : Int) == (nl : Int)) = true := by simp; omega
            have HD : Hid (FS l line f (x) (p) true) := by
              obtain ⟨lim, h9⟩ := HX2.out.1
              rw [show p + 1 = line.length + 1 by omega] at h9
              exact h9.done
            clear hpn HX2
            go_wp2
            go_ret3
            exact ⟨_, _, _, _, _, _, _, rfl, HD.out, S3.out, HSw.out⟩
          · have hpn' : ((p : Int) == (nl : Int)) = false := by simp; omega
            have hpl : (p : Int) < (nl : Int) := by omega
            obtain ⟨gl, ol, el, hcl⟩ := HT.out.at (by omega)
            subst el
            have cx := keepC S3.out.bel (hcl p (by omega))
            have hbx := bn_lt line p
            have cx' : w3.cell? ⟨gl, ol + p, none⟩ = some (.int .u8 (bn line p : Int)) := cx
            clear cx hcl
            have CM := Hid.mk' (may_any w W0 w3 Sb gb1 gn1 at_ ct (some ⟨gl, ol, none⟩) nl cl l (Pn l line p (ins true g1 p)) h1 (x) hl S3)
            cases hmb : mb (Pn l line p (ins true g1 p)) (x) l.length with
            | true =>
              rw [hmb] at CM
              clear hmb
              have CR := Hid.mk' (fun W2 H2 => read_any w W0 W2 Sb gb1 gn1 at_ ct (some ⟨gl, ol, none⟩) nl cl l (Pn l line p (ins true g1 p)) h1 (bn line p) hbx hl HN3 HTh H2)
              go_wp2_with (first | (go_at_call 57; with_reducible (refine CM.out.mono ?_); rintro e w4 ⟨rfl, hb4⟩; have S4 := Hid.mk' (S3.out.keep hb4); have k1 := keepC hb4 b1; have cx4 := keepC hb4 cx') | (go_at_call 58; refine (CR.out _ S4.out).mono ?_; rintro e w5 ⟨rfl, hs5⟩; have S5 := Hid.mk' hs5; clear hs5))
              go_roundg m
              case measure => omega
              case rel => exact ⟨p + 1, x, p, true, gn1, gb1, _, _, by go_num, rfl, rfl, rfl, by omega, by omega, by omega, S5.out, HX2.out.1, Rn_N0 HN3.out, HSw.out.swap⟩
            | false =>
              rw [hmb] at CM
              have HD := Hid.mk' (HX2.out.2 rfl (mb_false hmb))
              clear hmb HX2
              go_wp2_with (first | (go_at_call 57; with_reducible (refine CM.out.mono ?_); rintro e w4 ⟨rfl, hb4⟩; have S4 := Hid.mk' (S3.out.keep hb4)))
              go_ret3
              exact ⟨_, _, _, _, _, _, _, rfl, HD.out, S4.out, HSw.out⟩
        · have hxa' : ¬ ((x : Int) ≤ (a : Int)) := by omega
          have HX2 := Hid.mk' (HPX.out a b true (.inr ⟨fun hh => by rcases hh.2 with e | e; cases e; exact hxa e, rfl, rfl, rfl⟩))
          clear HPX
          by_cases hpn : p = nl
          · have hpn' : ((p : Int) == (nl : Int)) = true := by simp; omega
            have HD : Hid (FS l line f (a) (b) true) := by
              obtain ⟨lim, h9⟩ := HX2.out.1
              rw [show p + 1 = line.length + 1 by omega] at h9
              exact h9.done
            clear hpn HX2
            go_wp2
            go_ret3
            exact ⟨_, _, _, _, _, _, _, rfl, HD.out, S3.out, HSw.out⟩
          · have hpn' : ((p : Int) == (nl : Int)) = false := by simp; omega
            have hpl : (p : Int) < (nl : Int) := by omega
            obtain ⟨gl, ol, el, hcl⟩ := HT.out.at (by omega)
            subst el
            have cx := keepC S3.out.bel (hcl p (by omega))
            have hbx := bn_lt line p
            have cx' : w3.cell? ⟨gl, ol + p, none⟩ = some (.int .u8 (bn line p : Int)) := cx
            clear cx hcl
            have CM := Hid.mk' (may_any w W0 w3 Sb gb1 gn1 at_ ct (some ⟨gl, ol, none⟩) nl cl l (Pn l line p (ins true g1 p)) h1 (a) hl S3)
            cases hmb : mb (Pn l line p (ins true g1 p)) (a) l.length with
            | true =>
              rw [hmb] at CM
              clear hmb
              have CR := Hid.mk' (fun W2 H2 => read_any w W0 W2 Sb gb1 gn1 at_ ct (some ⟨gl, ol, none⟩) nl cl l (Pn l line p (ins true g1 p)) h1 (bn line p) hbx hl HN3 HTh H2)
              go_wp2_with (first | (go_at_call 57; with_reducible (refine CM.out.mono ?_); rintro e w4 ⟨rfl, hb4⟩; have S4 := Hid.mk' (S3.out.keep hb4); have k1 := keepC hb4 b1; have cx4 := keepC hb4 cx') | (go_at_call 58; refine (CR.out _ S4.out).mono ?_; rintro e w5 ⟨rfl, hs5⟩; have S5 := Hid.mk' hs5; clear hs5))
              go_roundg m
              case measure => omega
              case rel => exact ⟨p + 1, a, b, true, gn1, gb1, _, _, by go_num, rfl, rfl, rfl, by omega, by omega, by omega, S5.out, HX2.out.1, Rn_N0 HN3.out, HSw.out.swap⟩
            | false =>
              rw [hmb] at CM
              have HD := Hid.mk' (HX2.out.2 rfl (mb_false hmb))
              clear hmb HX2
              go_wp2_with (first | (go_at_call 57; with_reducible (refine CM.out.mono ?_); rintro e w4 ⟨rfl, hb4⟩; have S4 := Hid.mk' (S3.out.keep hb4)))
              go_ret3
              exact ⟨_, _, _, _, _, _, _, rfl, HD.out, S4.out, HSw.out⟩
    | false =>
      have r0 := HS.out.bg.cell (nva_at _ (j := 0) (by omega))
      have z0 := HS.out.bg.frozen 0
      have hl0 : (0 : Int) < (l.length : Int) + 1 := by omega
      go_wp2_with fail
      go_region
      go_wp2_with fail
      have CP := Hid.mk' (fun W2 H2 => pass_any w W0 W2 Sb gb1 gn1 at_ ct ao nl cl l (ins false g1 p) h1 line p hp2 hl (Hid.mk' (ins_N0 HN.out)) HTh HT H2)
      have S0 := Hid.mk' ((HS.out.setB 0 (min (g1 0) p)).keep (Below.refl _ _).drew)
      rw [show ((min (g1 0) p : Nat) : Int) = min (g1 0 : Int) (p : Int) by omega, ← ins_store] at S0
      clear r0 z0
      refine (CP.out _ S0).mono ?_
      clear S0
      rintro e w2 ⟨rfl, hs2⟩
      have S2 := Hid.mk' hs2
      clear hs2 CP
      have d0 : w2.cell? ⟨Sb, 0, none⟩ = some (.slice at_ l.length ct) := S2.out.blk.cell (j := 0) rfl
      have d2 : w2.cell? ⟨Sb, 2, none⟩ = some (.slice (some ⟨gb1, 0, none⟩) (l.length + 1) (l.length + 1)) := S2.out.blk.cell (j := 2) rfl
      have dx := S2.out.bg.cell (nva_at _ (j := l.length) (by omega))
      obtain ⟨x, HX⟩ : ∃ x, Hid (Pn l line p (ins false g1 p) l.length = x) := ⟨_, rfl⟩
      rw [HX.out] at dx
      clear b1 b2
      go_wp2_with fail
      go_quiet (fail)
      have S3 := Hid.mk' (S2.out.keep (bDrewN _ nq))
      clear d0 d2 dx S2
      generalize w2.drewN nq = w3 at *
      have b1 : w3.cell? ⟨Sb, 1, none⟩ = some (.slice ao nl cl) := S3.out.blk.cell (j := 1) rfl
      have HN3 : Hid (∀ k, Pn l line p (ins false g1 p) k ≤ N0) := Pn_N0 (ins_N0 HN.out)
      have HPX := Hid.mk' (fun (a' b' : Nat) (ok' : Bool) (ht : Turns p (Pn l line p (ins false g1 p) l.length) a b false a' b' ok') => HPre.out.passed (by omega) hbigN HN.out ht)
      rw [HX.out] at HPX
      by_cases hx : x = N0
      · have hx' : ((x : Int) != 9223372036854775807) = false := by rw [hx]; rfl
        have HX2 := Hid.mk' (HPX.out a b false (.inr ⟨fun hh => hh.1 hx, rfl, rfl, rfl⟩))
        clear hx HPX
        by_cases hpn : p = nl
        · have hpn' : ((p : Int) == (nl : Int)) = true := by simp; omega
          have HD : Hid (FS l line f (a) (b) false) := by
            obtain ⟨lim, h9⟩ := HX2.out.1
            rw [show p + 1 = line.length + 1 by omega] at h9
            exact h9.done
          clear hpn HX2
          go_wp2
          go_ret3
          exact ⟨_, _, _, _, _, _, _, rfl, HD.out, S3.out, HSw.out⟩
        · have hpn' : ((p : Int) == (nl : Int)) = false := by simp; omega
          have hpl : (p : Int) < (nl : Int) := by omega
          obtain ⟨gl, ol, el, hcl⟩ := HT.out.at (by omega)
          subst el
          have cx := keepC S3.out.bel (hcl p (by omega))
          have hbx := bn_lt line p
          have cx' : w3.cell? ⟨gl, ol + p, none⟩ = some (.int .u8 (bn line p : Int)) := cx
          clear cx hcl
          have CR := Hid.mk' (fun W2 H2 => read_any w W0 W2 Sb gb1 gn1 at_ ct (some ⟨gl, ol, none⟩) nl cl l (Pn l line p (ins false g1 p)) h1 (bn line p) hbx hl HN3 HTh H2)
          go_wp2_with (first | (go_at_call 58; refine (CR.out _ S3.out).mono ?_; rintro e w5 ⟨rfl, hs5⟩; have S5 := Hid.mk' hs5; clear hs5))
          go_roundg m
          case measure => omega
          case rel => exact ⟨p + 1, a, b, false, gn1, gb1, _, _, by go_num, rfl, rfl, rfl, by omega, by omega, by omega, S5.out, HX2.out.1, Rn_N0 HN3.out, HSw.out.swap⟩
      · have hx' : ((x : Int) != 9223372036854775807) = true := by
          have : (x : Int) ≠ 9223372036854775807 := fun e => hx (by unfold N0; omega)
          simpa using this
        have HX2 := Hid.mk' (HPX.out x p true (.inl ⟨hx, .inl rfl, rfl, rfl, rfl⟩))
        clear HPX
        by_cases hpn : p = nl
        · have hpn' : ((p : Int) == (nl : Int)) = true := by simp; omega
          have HD : Hid (FS l line f (x) (p) true) := by
            obtain ⟨lim, h9⟩ := HX2.out.1
            rw [show p + 1 = line.length + 1 by omega] at h9
            exact h9.done
          clear hpn HX2
          go_wp2
          go_ret3
          exact ⟨_, _, _, _, _, _, _, rfl, HD.out, S3.out, HSw.out⟩
        · have hpn' : ((p : Int) == (nl : Int)) = false := by simp; omega
          have hpl : (p : Int) < (nl : Int) := by omega
          obtain ⟨gl, ol, el, hcl⟩ := HT.out.at (by omega)
          subst el
          have cx := keepC S3.out.bel (hcl p (by omega))
          have hbx := bn_lt line p
          have cx' : w3.cell? ⟨gl, ol + p, none⟩ = some (.int .u8 (bn line p : Int)) := cx
          clear cx hcl
          have CM := Hid.mk' (may_any w W0 w3 Sb gb1 gn1 at_ ct (some ⟨gl, ol, none⟩) nl cl l (Pn l line p (ins false g1 p)) h1 (x) hl S3)
          cases hmb : mb (Pn l line p (ins false g1 p)) (x) l.length with
          | true =>
            rw [hmb] at CM
            clear hmb
            have CR := Hid.mk' (fun W2 H2 => read_any w W0 W2 Sb gb1 gn1 at_ ct (some ⟨gl, ol, none⟩) nl cl l (Pn l line p (ins false g1 p)) h1 (bn line p) hbx hl HN3 HTh H2)
            go_wp2_with (first | (go_at_call 57; with_reducible (refine CM.out.mono ?_); rintro e w4 ⟨rfl, hb4⟩; have S4 := Hid.mk' (S3.out.keep hb4); have k1 := keepC hb4 b1; have cx4 := keepC hb4 cx') | (go_at_call 58; refine (CR.out _ S4.out).mono ?_; rintro e w5 ⟨rfl, hs5⟩; have S5 := Hid.mk' hs5; clear hs5))
            go_roundg m
            case measure => omega
            case rel => exact ⟨p + 1, x, p, true, gn1, gb1, _, _, by go_num, rfl, rfl, rfl, by omega, by omega, by omega, S5.out, HX2.out.1, Rn_N0 HN3.out, HSw.out.swap⟩
          | false =>
            rw [hmb] at CM
            have HD := Hid.mk' (HX2.out.2 rfl (mb_false hmb))
            clear hmb HX2
            go_wp2_with (first | (go_at_call 57; with_reducible (refine CM.out.mono ?_); rintro e w4 ⟨rfl, hb4⟩; have S4 := Hid.mk' (S3.out.keep hb4)))
            go_ret3
            exact ⟨_, _, _, _, _, _, _, rfl, HD.out, S4.out, HSw.out⟩
end Go.Proofs.Ytaakgoojcogbcaa
