/- The contract of the reference's hits, back; and of its move. -/
import Derived.Test.YtinlkeionoghdaaHitu
namespace Go.Proofs.Ytinlkeionoghdaa
open Go.RowKit

set_option maxHeartbeats 4000000 in
theorem hits_dn (ao : Option Addr) (n c p sk B : Nat) (b : Int) (l : List UInt8) (w : World) (hn : n ≤ 1048576) (hsk : sk ≤ 1) (hp : p ≤ n) (hBp : B ≤ p) (HN : Hid (∀ j, B ≤ j → j < p → le (at8 l j) = false)) (HE : Hid (B = 0 ∨ (0 < B ∧ le (at8 l (B - 1)) = true))) (HT : Hid (Tx w ao n c l)) :
    Calls Try.prog 24 #[.slice ao n c, .int .i64 p, .int .u8 b, .bool false, .int .i64 sk] w fun e w' => ∃ v, e = .returned v ∧ Below w.heap.size w w' ∧ w'.ownsRow w.heap.size 3 1 v (hd (sd l b p sk) (p - B) p).length (iv (hd (sd l b p sk) (p - B) p)) := by
  obtain ⟨i0, hi, hz0, hz1, hz2⟩ := info_parts info3
  have hp0 : (0 : Int) ≤ (p : Int) := by omega
  have hpb : (p : Int) ≤ 1048576 := by omega
  obtain ⟨L, hL⟩ : ∃ L, L = hd (sd l b p sk) (p - B) p := ⟨_, rfl⟩
  rw [← hL]
  have HL := Hid.mk' hL.symm
  have hLn : L.length ≤ n := by rw [hL]; have := hd_len (sd l b p sk) (p - B) p; omega
  clear hL
  have hs1 : IntKind.i64.wrap ((p : Int) - (sk : Int)) = (p : Int) - (sk : Int) := by rw [IntKind.wrap_i64]; omega
  go_enter Try.func24, Try.ntmps24
  go_wp2
  go_loopg [11, 13] (p - B) (fun g x11 x13 wx => ∃ (q : Nat) (L0 : List Nat), x13 = .int .i64 ((q : Int) - 1) ∧ B + g = q ∧ q ≤ p ∧ Hid (L0 ++ hd (sd l b p sk) g q = L) ∧ Hid (wx.ownsRow w.heap.size 3 1 x11 L0.length (iv L0)) ∧ Hid (Below w.heap.size w wx))
  case atStart => exact ⟨p, [], by go_num, by omega, by omega, HL.out, World.ownsRow_nil _ _ _ _, Below.refl _ _⟩
  case round =>
    obtain ⟨q, L0, rfl, hqg, hpq, HI, HO, HB⟩ := hrel
    obtain ⟨ax, cx, hax⟩ := own_shape HO.out
    subst hax
    have TT := Hid.mk' (HT.out.keep HB.out)
    cases gk with
    | zero =>
      obtain rfl : L0 = L := by have := HI.out; simpa [hd] using this
      have hqB : q = B := by omega
      subst hqB
      rcases HE.out with h0 | ⟨h0, h1⟩
      · subst h0
        go_wp2
        go_ret
        exact ⟨_, rfl, HB.out, HO.out⟩
      · obtain ⟨r, rfl⟩ : ∃ r, q = r + 1 := ⟨q - 1, by omega⟩
        have er : ((r + 1 : Nat) : Int) - 1 = (r : Int) := by omega
        rw [er]
        obtain ⟨gg, o, rfl, hcl⟩ := TT.out.at (by omega)
        have hcq := hcl r (by omega)
        have h11 := eq10 (l := l) (q := r) h1
        have hr0 : (0 : Int) ≤ (r : Int) := by omega
        have hrn : (r : Int) < (n : Int) := by omega
        clear hcl er
        go_wp2
        go_ret
        exact ⟨_, rfl, HB.out, HO.out⟩
    | succ g =>
      obtain ⟨r, rfl⟩ : ∃ r, q = r + 1 := ⟨q - 1, by omega⟩
      have er : ((r + 1 : Nat) : Int) - 1 = (r : Int) := by omega
      rw [er]
      obtain ⟨gg, o, rfl, hcl⟩ := TT.out.at (by omega)
      have hcq := hcl r (by omega)
      have h11 := ne10 (HN.out r (by omega) (by omega))
      have hr0 : (0 : Int) ≤ (r : Int) := by omega
      have hrn : (r : Int) < (n : Int) := by omega
      have hrb : (r : Int) ≤ 1048576 := by omega
      clear hcl er
      cases hs : isb l b r with
      | false =>
        have hs' : (((at8 l r).toNat : Int) == b) = false := hs
        have HK : Hid (L0 ++ hd (sd l b p sk) g r = L) := by have := HI.out; rw [hd_no (by unfold sd; rw [hs]; rfl)] at this; exact this
        clear hs
        go_wp2
        go_roundg g
        case measure => omega
        case rel => exact ⟨r, L0, by go_num, by omega, by omega, HK.out, HO.out, HB.out⟩
      | true =>
        have hs' : (((at8 l r).toNat : Int) == b) = true := hs
        by_cases hk : r + sk < p
        · have hk' : (r : Int) < (p : Int) - (sk : Int) := by omega
          have HK : Hid ((L0 ++ [r]) ++ hd (sd l b p sk) g r = L) := by have := HI.out; rw [hd_yes (by unfold sd; rw [hs, decide_eq_true hk]; rfl)] at this; rw [List.append_assoc]; exact this
          have hlen : L0.length + 1 ≤ n := by have h1 := congrArg List.length HK.out; simp at h1; omega
          clear hs hk
          go_wp2_with (at_builtin; refine append_srv rfl (.tmp 87) (.tmp 89) 52 rfl w.heap.size 3 i0 (.int .i64 0) 1 8 Try.underlying52 hi hz0 hz1 hz2 rfl (by decide) (.slice ax L0.length cx) L0.length (iv L0) rfl (HO.out.alloc _) (.slice (some ⟨wr.heap.size, 0, none⟩) 1 1) 1 [.int .i64 (r : Int)] rfl (.inr ⟨⟨wr.heap.size, 0, none⟩, 1, rfl, fun k u hk => lit_cells wr _ 3 k u hk⟩) rfl (iv_one _) (by unfold maxLen; omega) (by omega) (by have := HB.out.size; simp; omega) ?_)
          intro v2 w5 hown hgrow _
          have L2 : Hid (Below w.heap.size w w5) := (bAlloc HB.out _).grown hgrow (by have := HB.out.size; simp; omega) (fun k hk => (HO.out.lt k hk).1)
          have O2 : Hid (w5.ownsRow w.heap.size 3 1 v2 (L0 ++ [r]).length (iv (L0 ++ [r]))) := by unfold Hid; rw [← iv_snoc, List.length_append]; exact hown
          clear hown hgrow
          go_wp2
          go_roundg g
          case measure => omega
          case rel => exact ⟨r, L0 ++ [r], by go_num, by omega, by omega, HK.out, O2.out, L2.out⟩
        · have hk' : ¬ ((r : Int) < (p : Int) - (sk : Int)) := by omega
          have HK : Hid (L0 ++ hd (sd l b p sk) g r = L) := by have := HI.out; rw [hd_no (by unfold sd; rw [decide_eq_false hk, Bool.and_false])] at this; exact this
          clear hs hk
          go_wp2
          go_roundg g
          case measure => omega
          case rel => exact ⟨r, L0, by go_num, by omega, by omega, HK.out, HO.out, HB.out⟩

/-- the places that are looked at, ahead or back -/
def hl (l : List UInt8) (b : Int) (p sk : Nat) (a : Bool) : List Nat := bif a then hu (isb l b) (en l (bg l p) - (p + 1 + sk)) (p + 1 + sk) else hd (isb l b) (p - sk - bg l p) (p - sk)
theorem hits_any (ao : Option Addr) (n c p sk : Nat) (b : Int) (a : Bool) (l : List UInt8) (w : World) (hn : n ≤ 1048576) (hsk : sk ≤ 1) (hp : p ≤ n) (HT : Hid (Tx w ao n c l)) :
    Calls Try.prog 24 #[.slice ao n c, .int .i64 p, .int .u8 b, .bool a, .int .i64 sk] w fun e w' => ∃ v, e = .returned v ∧ Below w.heap.size w w' ∧ w'.ownsRow w.heap.size 3 1 v (hl l b p sk a).length (iv (hl l b p sk a)) := by
  have hlen := HT.out.len
  have hB : bg l p ≤ p := bg_le l p
  cases a with
  | true =>
    show Calls _ _ _ _ fun e w' => ∃ v, e = .returned v ∧ Below w.heap.size w w' ∧ w'.ownsRow w.heap.size 3 1 v (hu (isb l b) (en l (bg l p) - (p + 1 + sk)) (p + 1 + sk)).length (iv (hu (isb l b) (en l (bg l p) - (p + 1 + sk)) (p + 1 + sk)))
    have hE : en l (bg l p) ≤ n := by rw [← hlen]; exact en_le (by omega)
    by_cases hf : p = n ∨ le (at8 l p) = true
    · have h0 : en l (bg l p) - (p + 1 + sk) = 0 := by
        rcases hf with h | h
        · omega
        · rcases Nat.lt_or_ge p (en l (bg l p)) with h1 | h1
          · rw [en_none hB h1] at h; simp at h
          · omega
      rw [h0]
      refine (hits_flat ao n c p sk b l w hp hn hf HT).mono ?_
      rintro e w' ⟨rfl, rfl⟩
      exact ⟨_, rfl, Below.refl _ _, World.ownsRow_nil _ _ _ _⟩
    · have h1 : p < n := by omega
      have h2 : le (at8 l p) = false := by cases h : le (at8 l p) with | false => rfl | true => exact absurd (.inr h) hf
      have h3 : p < en l (bg l p) := by
        have h4 := place_en (t := l) (i := p) (by omega)
        rcases Nat.lt_or_ge p (en l (bg l p)) with h5 | h5
        · exact h5
        · have h6 := en_edge (t := l) (s := bg l p) (by omega)
          rw [show en l (bg l p) = p from by omega, h2] at h6
          simp at h6
      rw [← su_hu l b p sk _ hsk]
      exact hits_up ao n c p sk (en l (bg l p)) b l w hn hsk h3 hE (fun j k1 k2 => en_none (by omega) k2) (by unfold Hid; by_cases h : en l (bg l p) = n; exact .inl h; exact .inr (en_edge (by omega))) HT
  | false =>
    show Calls _ _ _ _ fun e w' => ∃ v, e = .returned v ∧ Below w.heap.size w w' ∧ w'.ownsRow w.heap.size 3 1 v (hd (isb l b) (p - sk - bg l p) (p - sk)).length (iv (hd (isb l b) (p - sk - bg l p) (p - sk)))
    rw [← sd_hd l b p sk _ hsk hB]
    exact hits_dn ao n c p sk (bg l p) b l w hn hsk hp hB (fun j k1 k2 => bg_none l p j k1 k2) (bg_st l p (by omega)).edge HT
/-- a place of an own row of places -/
theorem iv_cell {w : World} {base : Nat} {v : Value} {L : List Nat} {j q : Nat} (h : w.ownsRow base 3 1 v L.length (iv L)) (hj : L[j]? = some q) : ∃ g cap, v = .slice (some ⟨g, 0, none⟩) L.length cap ∧ w.cell? ⟨g, j, none⟩ = some (.int .i64 (q : Int)) := by
  have hlt := (List.getElem?_eq_some_iff.1 hj).1
  rcases h.2 with ⟨_, h0⟩ | ⟨g, cap, cur, rfl, _, _, h1, h2, _⟩
  · omega
  · refine ⟨g, cap, rfl, ?_⟩
    rw [h.cellAt j (by omega)]
    simp [iv, hj]
set_option maxHeartbeats 4000000 in
theorem rmove_1 (ao : Option Addr) (n c p m sk : Nat) (cnt b : Int) (l : List UInt8) (w : World) (hn : n ≤ 1048576) (hp : p ≤ n) (hsk : sk ≤ 1) (hc : cnt = (m : Int) ∧ 1 ≤ m ∨ cnt = 0 ∧ m = 1) (hN : m ≤ 9999) (HT : Hid (Tx w ao n c l)) :
    Calls Try.prog 17 #[.slice ao n c, .int .i64 p, .int .i64 cnt, .int .u8 102, .int .u8 b, .int .i64 sk] w fun e w' => e = mvE (res p 1 (hit l b p m sk 1)) ∧ Below w.heap.size w w' := by
  obtain ⟨L, hL⟩ : ∃ L, L = hl l b p sk true := ⟨_, rfl⟩
  have HH := Hid.mk' (fun w HT => hits_any ao n c p sk b true l w hn hsk hp HT)
  have HQ : Hid (hit l b p m sk 1 = L[m - 1]?) := by unfold Hid; rw [hL]; rfl
  have hLn : L.length ≤ n := by
    rw [hL]; simp only [hl, cond_true]
    first | exact Nat.le_trans (hu_len _ _ _) (by have := en_le (t := l) (s := bg l p) (by have := bg_le l p; have := HT.out.len; omega); have := HT.out.len; omega) | exact Nat.le_trans (hd_len _ _ _) (by omega)
  rw [← hL] at HH
  clear hL
  have hqb : Hid (∀ q, L[m - 1]? = some q → q ≤ n) := by
    intro q hq
    rw [← HQ.out] at hq
    have hln := HT.out.len
    have hE := en_le (t := l) (s := bg l p) (by have := bg_le l p; omega)
    first | (have h9 := hit_up (.inl rfl) hq; omega) | (have h9 := hit_up (.inr rfl) hq; omega) | (have h9 := hit_dn (.inl rfl) hq; omega) | (have h9 := hit_dn (.inr rfl) hq; omega)
  have T1 := Hid.mk' (fun x : Obj => Hid.mk' (HT.out.keep (bAlloc (Below.refl _ _) x)))
  have hm0 : (0 : Int) ≤ (m : Int) := by omega
  have hm1 : (1 : Int) ≤ (m : Int) := by omega
  have hm9 : (m : Int) ≤ 9999 := by omega
  rcases hc with ⟨rfl, hc⟩ | ⟨rfl, rfl⟩
  · have hnz : ((m : Int) == 0) = false := by simp; omega
    go_enter Try.func17, Try.ntmps17
    go_wp2_with fail
    refine (HH.out _ (T1.out _)).mono ?_
    rintro e w1 ⟨v, rfl, hb1, hO⟩
    have B1 := Hid.mk' (bT (bAlloc (Below.refl _ _) _) hb1)
    obtain ⟨hc1, hf1⟩ := bcell hb1
    have HO := Hid.mk' hO
    obtain ⟨ax, cx, hax⟩ := own_shape hO
    subst hax
    clear hb1 hO
    cases hq : L[m - 1]? with
    | none =>
      have hlt : ((L.length : Int)) < (m : Int) := by have := List.getElem?_eq_none_iff.1 hq; omega
      have HR : Hid (hit l b p m sk 1 = none) := HQ.out.trans hq
      clear hq
      go_wp2
      exact bodyPost_ret (v := .tuple #[.agg #[.int .i64 0, .int .i64 0, .int .i64 0], .int .i64 70]) (by simp [results, Try.results17, go_sem, hc1]) rfl ⟨by rw [HR.out]; rfl, bset (bset (bset B1.out _ (by simp)) _ (by simp)) _ (by simp)⟩
    | some q =>
      have hlt0 : m - 1 < L.length := (List.getElem?_eq_some_iff.1 hq).1
      have hlt : ¬ ((L.length : Int) < (m : Int)) := by omega
      have hqn := hqb.out q hq
      have hq0 : (0 : Int) ≤ (q : Int) := by omega
      have hq1 : (q : Int) ≤ 1048576 := by omega
      obtain ⟨g2, c2, hv, hcq⟩ := iv_cell HO.out hq
      simp only [Value.slice.injEq] at hv
      obtain ⟨rfl, -, rfl⟩ := hv
      have HR : Hid (hit l b p m sk 1 = some q) := HQ.out.trans hq
      clear hq
      have em : ((m : Int) - 1) = ((m - 1 : Nat) : Int) := by omega
      have hlt2 : ((m - 1 : Nat) : Int) < (L.length : Int) := by omega
      have hlt3 : (0 : Int) ≤ ((m - 1 : Nat) : Int) := by omega
      have hwm : IntKind.i64.wrap ((m : Int) - 1) = ((m - 1 : Nat) : Int) := by rw [IntKind.wrap_i64]; omega
      clear em
      go_wp2
      exact bodyPost_ret (v := .tuple #[.agg #[.int .i64 p, .int .i64 (q : Int), .int .i64 2], .int .i64 0]) (by simp [results, Try.results17, go_sem, hc1]) rfl ⟨by rw [HR.out]; first | rfl | (simp [mvE, res, tov, wy, sh, kd]; done), bset (bset (bset B1.out _ (by simp)) _ (by simp)) _ (by simp)⟩
  · go_enter Try.func17, Try.ntmps17
    go_wp2_with fail
    refine (HH.out _ (T1.out _)).mono ?_
    rintro e w1 ⟨v, rfl, hb1, hO⟩
    have B1 := Hid.mk' (bT (bAlloc (Below.refl _ _) _) hb1)
    obtain ⟨hc1, hf1⟩ := bcell hb1
    have HO := Hid.mk' hO
    obtain ⟨ax, cx, hax⟩ := own_shape hO
    subst hax
    clear hb1 hO
    cases hq : L[1 - 1]? with
    | none =>
      have hlt : ((L.length : Int)) < 1 := by have := List.getElem?_eq_none_iff.1 hq; omega
      have HR : Hid (hit l b p 1 sk 1 = none) := HQ.out.trans hq
      clear hq
      go_wp2
      exact bodyPost_ret (v := .tuple #[.agg #[.int .i64 0, .int .i64 0, .int .i64 0], .int .i64 70]) (by simp [results, Try.results17, go_sem, hc1]) rfl ⟨by rw [HR.out]; rfl, bset (bset (bset B1.out _ (by simp)) _ (by simp)) _ (by simp)⟩
    | some q =>
      have hlt0 : 1 - 1 < L.length := (List.getElem?_eq_some_iff.1 hq).1
      have hlt : ¬ ((L.length : Int) < 1) := by omega
      have hqn := hqb.out q hq
      have hq0 : (0 : Int) ≤ (q : Int) := by omega
      have hq1 : (q : Int) ≤ 1048576 := by omega
      obtain ⟨g2, c2, hv, hcq⟩ := iv_cell HO.out hq
      simp only [Value.slice.injEq] at hv
      obtain ⟨rfl, -, rfl⟩ := hv
      have HR : Hid (hit l b p 1 sk 1 = some q) := HQ.out.trans hq
      clear hq
      have hlt1 : 0 < L.length := by omega
      have hlt2 : (0 : Int) < (L.length : Int) := by omega
      simp only [Nat.sub_self] at hcq
      go_wp2
      exact bodyPost_ret (v := .tuple #[.agg #[.int .i64 p, .int .i64 (q : Int), .int .i64 2], .int .i64 0]) (by simp [results, Try.results17, go_sem, hc1]) rfl ⟨by rw [HR.out]; first | rfl | (simp [mvE, res, tov, wy, sh, kd]; done), bset (bset (bset B1.out _ (by simp)) _ (by simp)) _ (by simp)⟩
set_option maxHeartbeats 4000000 in
theorem rmove_2 (ao : Option Addr) (n c p m sk : Nat) (cnt b : Int) (l : List UInt8) (w : World) (hn : n ≤ 1048576) (hp : p ≤ n) (hsk : sk ≤ 1) (hc : cnt = (m : Int) ∧ 1 ≤ m ∨ cnt = 0 ∧ m = 1) (hN : m ≤ 9999) (HT : Hid (Tx w ao n c l)) :
    Calls Try.prog 17 #[.slice ao n c, .int .i64 p, .int .i64 cnt, .int .u8 116, .int .u8 b, .int .i64 sk] w fun e w' => e = mvE (res p 2 (hit l b p m sk 2)) ∧ Below w.heap.size w w' := by
  obtain ⟨L, hL⟩ : ∃ L, L = hl l b p sk true := ⟨_, rfl⟩
  have HH := Hid.mk' (fun w HT => hits_any ao n c p sk b true l w hn hsk hp HT)
  have HQ : Hid (hit l b p m sk 2 = L[m - 1]?) := by unfold Hid; rw [hL]; rfl
  have hLn : L.length ≤ n := by
    rw [hL]; simp only [hl, cond_true]
    first | exact Nat.le_trans (hu_len _ _ _) (by have := en_le (t := l) (s := bg l p) (by have := bg_le l p; have := HT.out.len; omega); have := HT.out.len; omega) | exact Nat.le_trans (hd_len _ _ _) (by omega)
  rw [← hL] at HH
  clear hL
  have hqb : Hid (∀ q, L[m - 1]? = some q → q ≤ n) := by
    intro q hq
    rw [← HQ.out] at hq
    have hln := HT.out.len
    have hE := en_le (t := l) (s := bg l p) (by have := bg_le l p; omega)
    first | (have h9 := hit_up (.inl rfl) hq; omega) | (have h9 := hit_up (.inr rfl) hq; omega) | (have h9 := hit_dn (.inl rfl) hq; omega) | (have h9 := hit_dn (.inr rfl) hq; omega)
  have T1 := Hid.mk' (fun x : Obj => Hid.mk' (HT.out.keep (bAlloc (Below.refl _ _) x)))
  have hm0 : (0 : Int) ≤ (m : Int) := by omega
  have hm1 : (1 : Int) ≤ (m : Int) := by omega
  have hm9 : (m : Int) ≤ 9999 := by omega
  rcases hc with ⟨rfl, hc⟩ | ⟨rfl, rfl⟩
  · have hnz : ((m : Int) == 0) = false := by simp; omega
    go_enter Try.func17, Try.ntmps17
    go_wp2_with fail
    refine (HH.out _ (T1.out _)).mono ?_
    rintro e w1 ⟨v, rfl, hb1, hO⟩
    have B1 := Hid.mk' (bT (bAlloc (Below.refl _ _) _) hb1)
    obtain ⟨hc1, hf1⟩ := bcell hb1
    have HO := Hid.mk' hO
    obtain ⟨ax, cx, hax⟩ := own_shape hO
    subst hax
    clear hb1 hO
    cases hq : L[m - 1]? with
    | none =>
      have hlt : ((L.length : Int)) < (m : Int) := by have := List.getElem?_eq_none_iff.1 hq; omega
      have HR : Hid (hit l b p m sk 2 = none) := HQ.out.trans hq
      clear hq
      go_wp2
      exact bodyPost_ret (v := .tuple #[.agg #[.int .i64 0, .int .i64 0, .int .i64 0], .int .i64 70]) (by simp [results, Try.results17, go_sem, hc1]) rfl ⟨by rw [HR.out]; rfl, bset (bset (bset B1.out _ (by simp)) _ (by simp)) _ (by simp)⟩
    | some q =>
      have hlt0 : m - 1 < L.length := (List.getElem?_eq_some_iff.1 hq).1
      have hlt : ¬ ((L.length : Int) < (m : Int)) := by omega
      have hqn := hqb.out q hq
      have hq0 : (0 : Int) ≤ (q : Int) := by omega
      have hq1 : (q : Int) ≤ 1048576 := by omega
      obtain ⟨g2, c2, hv, hcq⟩ := iv_cell HO.out hq
      simp only [Value.slice.injEq] at hv
      obtain ⟨rfl, -, rfl⟩ := hv
      have HR : Hid (hit l b p m sk 2 = some q) := HQ.out.trans hq
      clear hq
      have em : ((m : Int) - 1) = ((m - 1 : Nat) : Int) := by omega
      have hlt2 : ((m - 1 : Nat) : Int) < (L.length : Int) := by omega
      have hlt3 : (0 : Int) ≤ ((m - 1 : Nat) : Int) := by omega
      have hwm : IntKind.i64.wrap ((m : Int) - 1) = ((m - 1 : Nat) : Int) := by rw [IntKind.wrap_i64]; omega
      clear em
      go_wp2
      exact bodyPost_ret (v := .tuple #[.agg #[.int .i64 p, .int .i64 ((q : Int) - 1), .int .i64 2], .int .i64 0]) (by simp [results, Try.results17, go_sem, hc1]) rfl ⟨by rw [HR.out]; first | rfl | (simp [mvE, res, tov, wy, sh, kd]; done), bset (bset (bset B1.out _ (by simp)) _ (by simp)) _ (by simp)⟩
  · go_enter Try.func17, Try.ntmps17
    go_wp2_with fail
    refine (HH.out _ (T1.out _)).mono ?_
    rintro e w1 ⟨v, rfl, hb1, hO⟩
    have B1 := Hid.mk' (bT (bAlloc (Below.refl _ _) _) hb1)
    obtain ⟨hc1, hf1⟩ := bcell hb1
    have HO := Hid.mk' hO
    obtain ⟨ax, cx, hax⟩ := own_shape hO
    subst hax
    clear hb1 hO
    cases hq : L[1 - 1]? with
    | none =>
      have hlt : ((L.length : Int)) < 1 := by have := List.getElem?_eq_none_iff.1 hq; omega
      have HR : Hid (hit l b p 1 sk 2 = none) := HQ.out.trans hq
      clear hq
      go_wp2
      exact bodyPost_ret (v := .tuple #[.agg #[.int .i64 0, .int .i64 0, .int .i64 0], .int .i64 70]) (by simp [results, Try.results17, go_sem, hc1]) rfl ⟨by rw [HR.out]; rfl, bset (bset (bset B1.out _ (by simp)) _ (by simp)) _ (by simp)⟩
    | some q =>
      have hlt0 : 1 - 1 < L.length := (List.getElem?_eq_some_iff.1 hq).1
      have hlt : ¬ ((L.length : Int) < 1) := by omega
      have hqn := hqb.out q hq
      have hq0 : (0 : Int) ≤ (q : Int) := by omega
      have hq1 : (q : Int) ≤ 1048576 := by omega
      obtain ⟨g2, c2, hv, hcq⟩ := iv_cell HO.out hq
      simp only [Value.slice.injEq] at hv
      obtain ⟨rfl, -, rfl⟩ := hv
      have HR : Hid (hit l b p 1 sk 2 = some q) := HQ.out.trans hq
      clear hq
      have hlt1 : 0 < L.length := by omega
      have hlt2 : (0 : Int) < (L.length : Int) := by omega
      simp only [Nat.sub_self] at hcq
      go_wp2
      exact bodyPost_ret (v := .tuple #[.agg #[.int .i64 p, .int .i64 ((q : Int) - 1), .int .i64 2], .int .i64 0]) (by simp [results, Try.results17, go_sem, hc1]) rfl ⟨by rw [HR.out]; first | rfl | (simp [mvE, res, tov, wy, sh, kd]; done), bset (bset (bset B1.out _ (by simp)) _ (by simp)) _ (by simp)⟩
set_option maxHeartbeats 4000000 in
theorem rmove_3 (ao : Option Addr) (n c p m sk : Nat) (cnt b : Int) (l : List UInt8) (w : World) (hn : n ≤ 1048576) (hp : p ≤ n) (hsk : sk ≤ 1) (hc : cnt = (m : Int) ∧ 1 ≤ m ∨ cnt = 0 ∧ m = 1) (hN : m ≤ 9999) (HT : Hid (Tx w ao n c l)) :
    Calls Try.prog 17 #[.slice ao n c, .int .i64 p, .int .i64 cnt, .int .u8 70, .int .u8 b, .int .i64 sk] w fun e w' => e = mvE (res p 3 (hit l b p m sk 3)) ∧ Below w.heap.size w w' := by
  obtain ⟨L, hL⟩ : ∃ L, L = hl l b p sk false := ⟨_, rfl⟩
  have HH := Hid.mk' (fun w HT => hits_any ao n c p sk b false l w hn hsk hp HT)
  have HQ : Hid (hit l b p m sk 3 = L[m - 1]?) := by unfold Hid; rw [hL]; rfl
  have hLn : L.length ≤ n := by
    rw [hL]; simp only [hl, cond_false]
    first | exact Nat.le_trans (hu_len _ _ _) (by have := en_le (t := l) (s := bg l p) (by have := bg_le l p; have := HT.out.len; omega); have := HT.out.len; omega) | exact Nat.le_trans (hd_len _ _ _) (by omega)
  rw [← hL] at HH
  clear hL
  have hqb : Hid (∀ q, L[m - 1]? = some q → q ≤ n) := by
    intro q hq
    rw [← HQ.out] at hq
    have hln := HT.out.len
    have hE := en_le (t := l) (s := bg l p) (by have := bg_le l p; omega)
    first | (have h9 := hit_up (.inl rfl) hq; omega) | (have h9 := hit_up (.inr rfl) hq; omega) | (have h9 := hit_dn (.inl rfl) hq; omega) | (have h9 := hit_dn (.inr rfl) hq; omega)
  have T1 := Hid.mk' (fun x : Obj => Hid.mk' (HT.out.keep (bAlloc (Below.refl _ _) x)))
  have hm0 : (0 : Int) ≤ (m : Int) := by omega
  have hm1 : (1 : Int) ≤ (m : Int) := by omega
  have hm9 : (m : Int) ≤ 9999 := by omega
  rcases hc with ⟨rfl, hc⟩ | ⟨rfl, rfl⟩
  · have hnz : ((m : Int) == 0) = false := by simp; omega
    go_enter Try.func17, Try.ntmps17
    go_wp2_with fail
    refine (HH.out _ (T1.out _)).mono ?_
    rintro e w1 ⟨v, rfl, hb1, hO⟩
    have B1 := Hid.mk' (bT (bAlloc (Below.refl _ _) _) hb1)
    obtain ⟨hc1, hf1⟩ := bcell hb1
    have HO := Hid.mk' hO
    obtain ⟨ax, cx, hax⟩ := own_shape hO
    subst hax
    clear hb1 hO
    cases hq : L[m - 1]? with
    | none =>
      have hlt : ((L.length : Int)) < (m : Int) := by have := List.getElem?_eq_none_iff.1 hq; omega
      have HR : Hid (hit l b p m sk 3 = none) := HQ.out.trans hq
      clear hq
      go_wp2
      exact bodyPost_ret (v := .tuple #[.agg #[.int .i64 0, .int .i64 0, .int .i64 0], .int .i64 70]) (by simp [results, Try.results17, go_sem, hc1]) rfl ⟨by rw [HR.out]; rfl, bset (bset (bset B1.out _ (by simp)) _ (by simp)) _ (by simp)⟩
    | some q =>
      have hlt0 : m - 1 < L.length := (List.getElem?_eq_some_iff.1 hq).1
      have hlt : ¬ ((L.length : Int) < (m : Int)) := by omega
      have hqn := hqb.out q hq
      have hq0 : (0 : Int) ≤ (q : Int) := by omega
      have hq1 : (q : Int) ≤ 1048576 := by omega
      obtain ⟨g2, c2, hv, hcq⟩ := iv_cell HO.out hq
      simp only [Value.slice.injEq] at hv
      obtain ⟨rfl, -, rfl⟩ := hv
      have HR : Hid (hit l b p m sk 3 = some q) := HQ.out.trans hq
      clear hq
      have em : ((m : Int) - 1) = ((m - 1 : Nat) : Int) := by omega
      have hlt2 : ((m - 1 : Nat) : Int) < (L.length : Int) := by omega
      have hlt3 : (0 : Int) ≤ ((m - 1 : Nat) : Int) := by omega
      have hwm : IntKind.i64.wrap ((m : Int) - 1) = ((m - 1 : Nat) : Int) := by rw [IntKind.wrap_i64]; omega
      clear em
      go_wp2
      exact bodyPost_ret (v := .tuple #[.agg #[.int .i64 p, .int .i64 (q : Int), .int .i64 1], .int .i64 0]) (by simp [results, Try.results17, go_sem, hc1]) rfl ⟨by rw [HR.out]; first | rfl | (simp [mvE, res, tov, wy, sh, kd]; done), bset (bset (bset B1.out _ (by simp)) _ (by simp)) _ (by simp)⟩
  · go_enter Try.func17, Try.ntmps17
    go_wp2_with fail
    refine (HH.out _ (T1.out _)).mono ?_
    rintro e w1 ⟨v, rfl, hb1, hO⟩
    have B1 := Hid.mk' (bT (bAlloc (Below.refl _ _) _) hb1)
    obtain ⟨hc1, hf1⟩ := bcell hb1
    have HO := Hid.mk' hO
    obtain ⟨ax, cx, hax⟩ := own_shape hO
    subst hax
    clear hb1 hO
    cases hq : L[1 - 1]? with
    | none =>
      have hlt : ((L.length : Int)) < 1 := by have := List.getElem?_eq_none_iff.1 hq; omega
      have HR : Hid (hit l b p 1 sk 3 = none) := HQ.out.trans hq
      clear hq
      go_wp2
      exact bodyPost_ret (v := .tuple #[.agg #[.int .i64 0, .int .i64 0, .int .i64 0], .int .i64 70]) (by simp [results, Try.results17, go_sem, hc1]) rfl ⟨by rw [HR.out]; rfl, bset (bset (bset B1.out _ (by simp)) _ (by simp)) _ (by simp)⟩
    | some q =>
      have hlt0 : 1 - 1 < L.length := (List.getElem?_eq_some_iff.1 hq).1
      have hlt : ¬ ((L.length : Int) < 1) := by omega
      have hqn := hqb.out q hq
      have hq0 : (0 : Int) ≤ (q : Int) := by omega
      have hq1 : (q : Int) ≤ 1048576 := by omega
      obtain ⟨g2, c2, hv, hcq⟩ := iv_cell HO.out hq
      simp only [Value.slice.injEq] at hv
      obtain ⟨rfl, -, rfl⟩ := hv
      have HR : Hid (hit l b p 1 sk 3 = some q) := HQ.out.trans hq
      clear hq
      have hlt1 : 0 < L.length := by omega
      have hlt2 : (0 : Int) < (L.length : Int) := by omega
      simp only [Nat.sub_self] at hcq
      go_wp2
      exact bodyPost_ret (v := .tuple #[.agg #[.int .i64 p, .int .i64 (q : Int), .int .i64 1], .int .i64 0]) (by simp [results, Try.results17, go_sem, hc1]) rfl ⟨by rw [HR.out]; first | rfl | (simp [mvE, res, tov, wy, sh, kd]; done), bset (bset (bset B1.out _ (by simp)) _ (by simp)) _ (by simp)⟩
set_option maxHeartbeats 4000000 in
theorem rmove_4 (ao : Option Addr) (n c p m sk : Nat) (cnt b : Int) (l : List UInt8) (w : World) (hn : n ≤ 1048576) (hp : p ≤ n) (hsk : sk ≤ 1) (hc : cnt = (m : Int) ∧ 1 ≤ m ∨ cnt = 0 ∧ m = 1) (hN : m ≤ 9999) (HT : Hid (Tx w ao n c l)) :
    Calls Try.prog 17 #[.slice ao n c, .int .i64 p, .int .i64 cnt, .int .u8 84, .int .u8 b, .int .i64 sk] w fun e w' => e = mvE (res p 4 (hit l b p m sk 4)) ∧ Below w.heap.size w w' := by
  obtain ⟨L, hL⟩ : ∃ L, L = hl l b p sk false := ⟨_, rfl⟩
  have HH := Hid.mk' (fun w HT => hits_any ao n c p sk b false l w hn hsk hp HT)
  have HQ : Hid (hit l b p m sk 4 = L[m - 1]?) := by unfold Hid; rw [hL]; rfl
  have hLn : L.length ≤ n := by
    rw [hL]; simp only [hl, cond_false]
    first | exact Nat.le_trans (hu_len _ _ _) (by have := en_le (t := l) (s := bg l p) (by have := bg_le l p; have := HT.out.len; omega); have := HT.out.len; omega) | exact Nat.le_trans (hd_len _ _ _) (by omega)
  rw [← hL] at HH
  clear hL
  have hqb : Hid (∀ q, L[m - 1]? = some q → q ≤ n) := by
    intro q hq
    rw [← HQ.out] at hq
    have hln := HT.out.len
    have hE := en_le (t := l) (s := bg l p) (by have := bg_le l p; omega)
    first | (have h9 := hit_up (.inl rfl) hq; omega) | (have h9 := hit_up (.inr rfl) hq; omega) | (have h9 := hit_dn (.inl rfl) hq; omega) | (have h9 := hit_dn (.inr rfl) hq; omega)
  have T1 := Hid.mk' (fun x : Obj => Hid.mk' (HT.out.keep (bAlloc (Below.refl _ _) x)))
  have hm0 : (0 : Int) ≤ (m : Int) := by omega
  have hm1 : (1 : Int) ≤ (m : Int) := by omega
  have hm9 : (m : Int) ≤ 9999 := by omega
  rcases hc with ⟨rfl, hc⟩ | ⟨rfl, rfl⟩
  · have hnz : ((m : Int) == 0) = false := by simp; omega
    go_enter Try.func17, Try.ntmps17
    go_wp2_with fail
    refine (HH.out _ (T1.out _)).mono ?_
    rintro e w1 ⟨v, rfl, hb1, hO⟩
    have B1 := Hid.mk' (bT (bAlloc (Below.refl _ _) _) hb1)
    obtain ⟨hc1, hf1⟩ := bcell hb1
    have HO := Hid.mk' hO
    obtain ⟨ax, cx, hax⟩ := own_shape hO
    subst hax
    clear hb1 hO
    cases hq : L[m - 1]? with
    | none =>
      have hlt : ((L.length : Int)) < (m : Int) := by have := List.getElem?_eq_none_iff.1 hq; omega
      have HR : Hid (hit l b p m sk 4 = none) := HQ.out.trans hq
      clear hq
      go_wp2
      exact bodyPost_ret (v := .tuple #[.agg #[.int .i64 0, .int .i64 0, .int .i64 0], .int .i64 70]) (by simp [results, Try.results17, go_sem, hc1]) rfl ⟨by rw [HR.out]; rfl, bset (bset (bset B1.out _ (by simp)) _ (by simp)) _ (by simp)⟩
    | some q =>
      have hlt0 : m - 1 < L.length := (List.getElem?_eq_some_iff.1 hq).1
      have hlt : ¬ ((L.length : Int) < (m : Int)) := by omega
      have hqn := hqb.out q hq
      have hq0 : (0 : Int) ≤ (q : Int) := by omega
      have hq1 : (q : Int) ≤ 1048576 := by omega
      obtain ⟨g2, c2, hv, hcq⟩ := iv_cell HO.out hq
      simp only [Value.slice.injEq] at hv
      obtain ⟨rfl, -, rfl⟩ := hv
      have HR : Hid (hit l b p m sk 4 = some q) := HQ.out.trans hq
      clear hq
      have em : ((m : Int) - 1) = ((m - 1 : Nat) : Int) := by omega
      have hlt2 : ((m - 1 : Nat) : Int) < (L.length : Int) := by omega
      have hlt3 : (0 : Int) ≤ ((m - 1 : Nat) : Int) := by omega
      have hwm : IntKind.i64.wrap ((m : Int) - 1) = ((m - 1 : Nat) : Int) := by rw [IntKind.wrap_i64]; omega
      clear em
      go_wp2
      exact bodyPost_ret (v := .tuple #[.agg #[.int .i64 p, .int .i64 ((q : Int) + 1), .int .i64 1], .int .i64 0]) (by simp [results, Try.results17, go_sem, hc1]) rfl ⟨by rw [HR.out]; first | rfl | (simp [mvE, res, tov, wy, sh, kd]; done), bset (bset (bset B1.out _ (by simp)) _ (by simp)) _ (by simp)⟩
  · go_enter Try.func17, Try.ntmps17
    go_wp2_with fail
    refine (HH.out _ (T1.out _)).mono ?_
    rintro e w1 ⟨v, rfl, hb1, hO⟩
    have B1 := Hid.mk' (bT (bAlloc (Below.refl _ _) _) hb1)
    obtain ⟨hc1, hf1⟩ := bcell hb1
    have HO := Hid.mk' hO
    obtain ⟨ax, cx, hax⟩ := own_shape hO
    subst hax
    clear hb1 hO
    cases hq : L[1 - 1]? with
    | none =>
      have hlt : ((L.length : Int)) < 1 := by have := List.getElem?_eq_none_iff.1 hq; omega
      have HR : Hid (hit l b p 1 sk 4 = none) := HQ.out.trans hq
      clear hq
      go_wp2
      exact bodyPost_ret (v := .tuple #[.agg #[.int .i64 0, .int .i64 0, .int .i64 0], .int .i64 70]) (by simp [results, Try.results17, go_sem, hc1]) rfl ⟨by rw [HR.out]; rfl, bset (bset (bset B1.out _ (by simp)) _ (by simp)) _ (by simp)⟩
    | some q =>
      have hlt0 : 1 - 1 < L.length := (List.getElem?_eq_some_iff.1 hq).1
      have hlt : ¬ ((L.length : Int) < 1) := by omega
      have hqn := hqb.out q hq
      have hq0 : (0 : Int) ≤ (q : Int) := by omega
      have hq1 : (q : Int) ≤ 1048576 := by omega
      obtain ⟨g2, c2, hv, hcq⟩ := iv_cell HO.out hq
      simp only [Value.slice.injEq] at hv
      obtain ⟨rfl, -, rfl⟩ := hv
      have HR : Hid (hit l b p 1 sk 4 = some q) := HQ.out.trans hq
      clear hq
      have hlt1 : 0 < L.length := by omega
      have hlt2 : (0 : Int) < (L.length : Int) := by omega
      simp only [Nat.sub_self] at hcq
      go_wp2
      exact bodyPost_ret (v := .tuple #[.agg #[.int .i64 p, .int .i64 ((q : Int) + 1), .int .i64 1], .int .i64 0]) (by simp [results, Try.results17, go_sem, hc1]) rfl ⟨by rw [HR.out]; first | rfl | (simp [mvE, res, tov, wy, sh, kd]; done), bset (bset (bset B1.out _ (by simp)) _ (by simp)) _ (by simp)⟩
end Go.Proofs.Ytinlkeionoghdaa
