/- All. -/
import Derived.Test.YtaakgoojcogbcaaZAlv
namespace Go.Proofs.Ytaakgoojcogbcaa
open Go.RowKit
/-- from where the next match is looked for -/
def nx1 (a b : Nat) : Nat := if a = b then b + 1 else b
/-- matches one behind the other, from f to f' -/
def AC (l : List Th) (line : List UInt8) : Nat → List (Nat × Nat) → Nat → Prop
  | f, [], f' => f = f'
  | f, (a, b) :: r, f' => f ≤ line.length ∧ FS l line f a b true ∧ AC l line (nx1 a b) r f'
theorem AC.snoc {l : List Th} {line : List UInt8} {a b : Nat} : ∀ {xs : List (Nat × Nat)} {f f' : Nat}, AC l line f xs f' → f' ≤ line.length → FS l line f' a b true → AC l line f (xs ++ [(a, b)]) (nx1 a b)
  | [], f, f', h, hl, hf => by cases h; exact ⟨hl, hf, rfl⟩
  | (c, d) :: r, f, f', h, hl, hf => ⟨h.1, h.2.1, AC.snoc h.2.2 hl hf⟩
/-- all matches -/
def AR (l : List Th) (line : List UInt8) (xs : List (Nat × Nat)) : Prop := ∃ f, AC l line 0 xs f ∧ (line.length < f ∨ FS l line f 0 0 false)
theorem AC.one {l : List Th} {line : List UInt8} : ∀ {xs ys : List (Nat × Nat)} {f f1 f2 : Nat}, AC l line f xs f1 → AC l line f ys f2 → (line.length < f1 ∨ FS l line f1 0 0 false) → (line.length < f2 ∨ FS l line f2 0 0 false) → xs = ys
  | [], [], _, _, _, _, _, _, _ => rfl
  | [], (a, b) :: r, f, f1, f2, h1, h2, e1, _ => by
    cases h1
    rcases e1 with e | e
    · have := h2.1; omega
    · have := (e.one h2.2.1).2.2; cases this
  | (a, b) :: r, [], f, f1, f2, h1, h2, _, e2 => by
    cases h2
    rcases e2 with e | e
    · have := h1.1; omega
    · have := (e.one h1.2.1).2.2; cases this
  | (a, b) :: r, (c, d) :: r', f, f1, f2, h1, h2, e1, e2 => by
    obtain ⟨ea, eb, _⟩ := h1.2.1.one h2.2.1
    subst ea eb
    rw [AC.one h1.2.2 h2.2.2 e1 e2]
theorem AR.one {l : List Th} {line : List UInt8} {xs ys : List (Nat × Nat)} (h : AR l line xs) (h' : AR l line ys) : xs = ys := by
  obtain ⟨f, h1, h2⟩ := h
  obtain ⟨g, g1, g2⟩ := h'
  exact AC.one h1 g1 h2 g2
theorem FS.le {l : List Th} {line : List UInt8} {f a b : Nat} (h : FS l line f a b true) : f ≤ a ∧ a ≤ b ∧ b ≤ line.length := by
  rcases h with ⟨_, h1, h2, h3, _⟩ | ⟨h, _⟩
  · exact ⟨h1, h2, h3⟩
  · cases h
theorem nx1_le {l : List Th} {line : List UInt8} {f a b : Nat} (h : FS l line f a b true) : f + 1 ≤ nx1 a b ∧ nx1 a b ≤ line.length + 1 := by
  have := h.le
  unfold nx1
  split <;> omega
/-- pairs as cells -/
def pvs (xs : List (Nat × Nat)) : List Value := xs.flatMap fun x => [.int .i64 (x.1 : Int), .int .i64 (x.2 : Int)]
theorem pvs_length (xs : List (Nat × Nat)) : (pvs xs).length = xs.length * 2 := by
  induction xs with
  | nil => rfl
  | cons x r ih => simp [pvs] at ih ⊢; omega
theorem pvs_snoc (xs : List (Nat × Nat)) (a b : Nat) : pvs (xs ++ [(a, b)]) = pvs xs ++ [.int .i64 (a : Int), .int .i64 (b : Int)] := by simp [pvs]
theorem info41 : (Try.prog.info? 37).map (fun i => (i.zero, i.size, i.bytes)) = some (some (.agg #[.int .i64 0, .int .i64 0]), 2, 16) := by kernel_rfl
theorem own_same {W W' : World} {base e s n : Nat} {v : Value} {xs : List Value} (h : W.ownsRow base e s v n xs) (he : ∀ g, v.ownBlock = some g → W'.heap[g]? = W.heap[g]?) : W'.ownsRow base e s v n xs := by
  refine ⟨h.1, ?_⟩
  rcases h.2 with h2 | ⟨g, cap, cur, e1, h3, h4, h5⟩
  · exact .inl h2
  · exact .inr ⟨g, cap, cur, e1, h3, by rw [he g (by rw [e1]; rfl)]; exact h4, h5⟩
theorem own_lt {W : World} {base e s n : Nat} {v : Value} {xs : List Value} (h : W.ownsRow base e s v n xs) {g : Nat} (hg : v.ownBlock = some g) : g < W.heap.size := by
  rcases h.2 with ⟨e1, _⟩ | ⟨g', cap, cur, e1, h3, h4, h5⟩
  · rw [e1] at hg; cases hg
  · rw [e1] at hg
    have : g' = g := by simpa [Value.ownBlock] using hg
    subst this
    exact (Array.getElem?_eq_some_iff.1 h4).1
/-- a search leaves another row as it was -/
theorem own_from {w W0 W W' : World} {Sb gb gn gb' gn' : Nat} {at_ : Option Addr} {ct : Nat} {ao : Option Addr} {nl cl : Nat} {l : List Th} {g h g' h' : Nat → Nat} {base n : Nat} {v : Value} {xs : List Value}
    (s : Se w W0 W Sb gb gn at_ ct ao nl cl l g h) (s' : Se w W W' Sb gb' gn' at_ ct ao nl cl l g' h') (e : Sw gb gn gb' gn') (ho : W.ownsRow base 37 2 v n xs) : W'.ownsRow base 37 2 v n xs := by
  refine own_same ho fun k hk => ?_
  have n1 := own_far ho s.blk (by decide)
  have n2 := own_far ho s.bg (by decide)
  have n3 := own_far ho s.nx (by decide)
  rw [hk] at n1 n2 n3
  have m1 : k ≠ Sb := fun e => n1 (by rw [e])
  have m2 : k ≠ gb := fun e => n2 (by rw [e])
  have m3 : k ≠ gn := fun e => n3 (by rw [e])
  rcases e with ⟨e1, e2⟩ | ⟨e1, e2⟩
  · exact s'.oth k (own_lt ho hk) m1 (by rw [e1]; exact m2) (by rw [e2]; exact m3)
  · exact s'.oth k (own_lt ho hk) m1 (by rw [e1]; exact m3) (by rw [e2]; exact m2)
/-- what All answers -/
def AllP (l : List Th) (line : List UInt8) (W : World) (e : Ending) (W' : World) : Prop := ∃ v xs, e = .returned v ∧ AR l line xs ∧ xs.length ≤ line.length + 1 ∧ W'.ownsRow W.heap.size 37 2 v xs.length (pvs xs) ∧ Below W.heap.size W W'

set_option maxRecDepth 8000 in
set_option maxHeartbeats 8000000 in
theorem all_any (base : Nat) (W : World) (P : Nat) (l : List Th) (ao : Option Addr) (nl cl : Nat) (line : List UInt8) (hnl : nl ≤ 65536) (hl : l.length ≤ 256) (HP : Hid (Pat base W P l)) (HT : Hid (Tx W ao nl cl line)) :
    Calls Try.prog 15 #[.pointer (some ⟨P, 0, none⟩), .slice ao nl cl] W fun e W' => AllP l line W e W' := by
  obtain ⟨i0, hi, hz0, hz1, hz2⟩ : ∃ i, Try.prog.info? 37 = some i ∧ i.zero = some (.agg #[.int .i64 0, .int .i64 0]) ∧ i.size = 2 ∧ i.bytes = 16 := by
    have := info41
    cases h : Try.prog.info? 37 with
    | none => rw [h] at this; cases this
    | some i => rw [h] at this; simp at this; exact ⟨i, rfl, this.1, this.2.1, this.2.2⟩
  have hlen := HT.out.len
  obtain ⟨_, tv, hb, ho⟩ := HP.out
  obtain ⟨ax, cx, etv⟩ := own_shape ho
  subst etv
  have cp : W.cell? ⟨P, 0, none⟩ = some (.slice ax l.length cx) := hb.cell (j := 0) rfl
  have HTh := Hid.mk' (ths_own ho)
  have CN := Hid.mk' (new_any W ax cx ao nl cl l hl)
  clear hb ho
  go_enter Try.func15, Try.ntmps15
  go_wp2_with (first | (go_at_call 31; refine CN.out.mono ?_; rintro e w1 ⟨Sb, gb, gn, rfl, hs⟩; have S1 := Hid.mk' hs; clear hs))
  go_loopg [5, 7, 8, 9, 10] (nl + 2) (fun m x5 x7 x8 x9 x10 wx => ∃ (f : Nat) (xs : List (Nat × Nat)) (gb gn : Nat) (g h : Nat → Nat) (W0 : World), x7 = .int .i64 (f : Int) ∧ f ≤ nl + 1 ∧ m + f = nl + 2 ∧ xs.length ≤ f ∧ Hid (AC l line 0 xs f) ∧ Hid (Se W W0 wx Sb gb gn ax cx ao nl cl l g h) ∧ Hid (wx.ownsRow W.heap.size 37 2 x5 xs.length (pvs xs)))
  case atStart => exact ⟨0, [], gb, gn, _, _, _, rfl, by omega, by omega, Nat.le_refl _, rfl, S1.out, rfl, .inl ⟨rfl, rfl⟩⟩
  case round =>
    obtain ⟨f, xs, gb1, gn1, g1, h1, W0, rfl, hf1, hm, hx, HA, HS, HO⟩ := hrel
    obtain ⟨a5, c5, e5⟩ := own_shape HO.out
    subst e5
    by_cases hfn : f ≤ nl
    · have hfn' : (f : Int) ≤ (nl : Int) := by omega
      have CFr := Hid.mk' (from_any W wr wr Sb gb1 gn1 ax cx ao nl cl l g1 h1 line f hfn hl HTh HT HS.out.here)
      go_wp2_with fail
      refine CFr.out.mono ?_
      rintro e w2 ⟨a, b, ok, gb2, gn2, g2, h2, rfl, hfs, hs2, hsw⟩
      clear CFr
      have HFS := Hid.mk' hfs
      have S2 := Hid.mk' hs2
      have O2 : Hid (w2.ownsRow W.heap.size 37 2 (.slice a5 xs.length c5) xs.length (pvs xs)) := own_from HS.out hs2 hsw HO.out
      clear hfs hs2 hsw HO HS
      cases ok with
      | false =>
        have hab : a = 0 ∧ b = 0 := by
          rcases HFS.out with h | h
          · cases h.1
          · exact ⟨h.2.1, h.2.2.1⟩
        obtain ⟨rfl, rfl⟩ := hab
        go_wp2
        go_ret
        exact ⟨_, xs, rfl, ⟨f, HA.out, .inr HFS.out⟩, by omega, O2.out, S2.out.bel⟩
      | true =>
        have hn1 := nx1_le HFS.out
        have hle := HFS.out.le
        go_wp2_with (first | (at_builtin; refine append_srv rfl (.tmp 32) (.tmp 36) 33 rfl W.heap.size 37 i0 (.agg #[.int .i64 0, .int .i64 0]) 2 16 Try.underlying33 hi hz0 hz1 hz2 rfl (by decide) (.slice a5 xs.length c5) xs.length (pvs xs) rfl (O2.out.alloc _) (.slice (some ⟨w2.heap.size, 0, none⟩) 1 1) 1 [.int .i64 (a : Int), .int .i64 (b : Int)] rfl (.inr ⟨⟨w2.heap.size, 0, none⟩, 1, rfl, fun k u hk => lit_cells w2 _ 37 k u hk⟩) rfl (by intro u hu; simp at hu; rcases hu with rfl | rfl <;> rfl) (by unfold maxLen; omega) (by omega) (bAlloc S2.out.bel _).size ?_))
        intro v5 w5 hown hgrow _
        have hS3 := S2.out.keep (bAlloc (Below.refl _ _) (.cells #[.int .i64 (a : Int), .int .i64 (b : Int)] 37))
        have O2' := O2.out.alloc (.cells #[.int .i64 (a : Int), .int .i64 (b : Int)] 37)
        have S5 := Hid.mk' (hS3.grown hgrow (fun k hk => (O2.out.lt k hk).1) (own_far O2' hS3.blk (by decide)) (own_far O2' hS3.bg (by decide)) (own_far O2' hS3.nx (by decide)))
        have O5 : Hid (w5.ownsRow W.heap.size 37 2 v5 (xs ++ [(a, b)]).length (pvs (xs ++ [(a, b)]))) := by
          unfold Hid; rw [pvs_snoc, List.length_append]; exact hown
        have HA2 := Hid.mk' (HA.out.snoc (by omega) HFS.out)
        clear hown hgrow hS3 O2' O2 S2 HA
        by_cases hab : a = b
        · have hab' : ((a : Int) == (b : Int)) = true := by simp; omega
          have HNX : Hid (nx1 a b = b + 1) := by unfold Hid nx1; rw [if_pos hab]
          clear hab
          go_wp2
          go_roundg (nl + 2 - (b + 1))
          case measure => rw [HNX.out] at hn1; omega
          case rel => exact ⟨b + 1, xs ++ [(a, b)], gb2, gn2, g2, h2, _, by go_num, by omega, by omega, by rw [HNX.out] at hn1; simp; omega, by rw [HNX.out] at HA2; exact HA2.out, S5.out, O5.out⟩
        · have hab' : ((a : Int) == (b : Int)) = false := by simp; omega
          have HNX : Hid (nx1 a b = b) := by unfold Hid nx1; rw [if_neg hab]
          go_wp2
          go_roundg (nl + 2 - b)
          case measure => rw [HNX.out] at hn1; omega
          case rel => exact ⟨b, xs ++ [(a, b)], gb2, gn2, g2, h2, _, by go_num, by omega, by omega, by rw [HNX.out] at hn1; simp; omega, by rw [HNX.out] at HA2; exact HA2.out, S5.out, O5.out⟩
    · have hfn' : ¬ ((f : Int) ≤ (nl : Int)) := by omega
      go_wp2
      go_ret
      exact ⟨_, xs, rfl, ⟨f, HA.out, .inl (by omega)⟩, by omega, HO.out, HS.out.bel⟩
end Go.Proofs.Ytaakgoojcogbcaa
