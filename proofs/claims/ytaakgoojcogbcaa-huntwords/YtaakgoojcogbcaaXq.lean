/- The pattern of a word (pure): what is compiled of it, and where it matches. -/
import Derived.Test.YtaakgoojcogbcaaXh
import Derived.Test.YtaakgoojcogbcaaXn
import Derived.Deep.QuietTactic
import Derived.BigQuiet
import Derived.Test.YtaakgoojcogbcaaZUnf
namespace Go.Proofs.Ytaakgoojcogbcaa
open Go.RowKit
/-- the things of a word's pattern -/
def wth (s : List UInt8) : List Th := fre 4 :: (s.map sg ++ [fre 5])
theorem wth_length (s : List UInt8) : (wth s).length = s.length + 2 := by simp [wth]
theorem wth_first (s : List UInt8) : th (wth s) 0 = fre 4 := rfl
theorem wth_mid {s : List UInt8} {k : Nat} (h : k < s.length) : th (wth s) (k + 1) = sg (at8 s k) := by
  show (s.map sg ++ [fre 5]).getD k ⟨9, fun _ => false⟩ = _
  rw [List.getD, List.getElem?_append_left (by simpa using h)]
  simp [at8, h, List.getD]
theorem wth_last (s : List UInt8) : th (wth s) (s.length + 1) = fre 5 := by
  simp [th, wth, List.getD]
theorem rdA_word (q : List UInt8) : ∀ (t : List UInt8) (i m : Nat) (l : List Th), q.drop i = qt t ++ [92, 62] → (qt t).length + 2 ≤ m → rdA q m i l = (-1, l ++ (t.map sg ++ [fre 5]))
  | [], i, m, l, h, hm => by
    obtain ⟨m, rfl⟩ : ∃ k, m = k + 1 := ⟨m - 1, by omega⟩
    obtain ⟨hi, hb, hd⟩ := bn_drop (x := 92) (r := [62]) h
    obtain ⟨hi2, hb2, hd2⟩ := bn_drop hd
    have e : rd1 q i l = (-1, i + 2, l ++ [fre 5]) := by
      unfold rd1
      rw [hb, hb2]
      simp only [show (92 : UInt8).toNat = 92 from rfl, show (62 : UInt8).toNat = 62 from rfl]
      rw [if_neg (by omega), if_neg (by omega), if_neg (by omega), if_pos trivial, if_neg (by omega), if_neg (by omega), if_pos trivial]
    rw [rdA_go hi, e]
    dsimp only
    have hstop : ¬ i + 2 < q.length := by
      intro hlt
      rw [List.drop_eq_getElem_cons hlt] at hd2
      cases hd2
    rw [if_pos rfl, rdA_stop hstop]
    simp
  | b :: t, i, m, l, h, hm => by
    rw [qt_cons] at h hm
    rw [List.length_append] at hm
    rw [List.append_assoc] at h
    have hl := q1_len b
    obtain ⟨m, rfl⟩ : ∃ k, m = k + 1 := ⟨m - 1, by omega⟩
    cases hs : spc b with
    | true =>
      have hq : q1 b = [92, b] := by unfold q1; rw [hs]; rfl
      rw [hq] at h hm
      obtain ⟨hi, hb, hd⟩ := bn_drop h
      obtain ⟨hi2, hb2, hd2⟩ := bn_drop hd
      have hy := spc_yes hs
      have e : rd1 q i l = (-1, i + 2, l ++ [sg b]) := by
        unfold rd1
        rw [hb, hb2]
        simp only [show (92 : UInt8).toNat = 92 from rfl]
        rw [if_neg (by omega), if_neg (by omega), if_neg (by omega), if_pos trivial, if_neg (by omega), if_neg hy.1, if_neg hy.2]
        rfl
      rw [rdA_go hi, e]
      dsimp only
      rw [if_pos rfl, rdA_word q t (i + 2) m (l ++ [sg b]) hd2 (by simp at hm; omega)]
      simp
    | false =>
      have hq : q1 b = [b] := by unfold q1; rw [hs]; rfl
      rw [hq] at h hm
      obtain ⟨hi, hb, hd⟩ := bn_drop h
      have hy := spc_no hs
      have e : rd1 q i l = (-1, i + 1, l ++ [sg b]) := by
        unfold rd1
        rw [hb]
        rw [if_neg (by omega), if_neg (by omega), if_neg (by omega), if_neg (by omega), if_neg (by omega), if_neg (by omega)]
        rfl
      rw [rdA_go hi, e]
      dsimp only
      rw [if_pos rfl, rdA_word q t (i + 1) m (l ++ [sg b]) hd (by simp at hm; omega)]
      simp
theorem cmp_upat (s : List UInt8) : cmp (upat s) = (-1, wth s) := by
  unfold cmp
  have h0 : (upat s).drop 0 = 92 :: 60 :: (qt s ++ [92, 62]) := by unfold upat; simp
  obtain ⟨hi, hb, hd⟩ := bn_drop h0
  obtain ⟨hi2, hb2, hd2⟩ := bn_drop hd
  have hlen : (upat s).length = ((qt s).length + 3) + 1 := by unfold upat; simp
  have e : rd1 (upat s) 0 [] = (-1, 2, [fre 4]) := by
    unfold rd1
    rw [hb, hb2]
    simp only [show (92 : UInt8).toNat = 92 from rfl, show (60 : UInt8).toNat = 60 from rfl]
    rw [if_neg (by omega), if_neg (by omega), if_neg (by omega), if_pos trivial, if_neg (by omega), if_pos trivial]
    rfl
  rw [hlen, rdA_go hi, e]
  dsimp only
  rw [if_pos rfl, rdA_word (upat s) s 2 _ [fre 4] hd2 (by omega)]
  rfl
/-! Where it matches. -/
/-- a word's beginning, a word's end -/
def wbg (line : List UInt8) (p : Nat) : Bool := iw line p && !iw line ((p : Int) - 1)
def wed (line : List UInt8) (p : Nat) : Bool := iw line ((p : Int) - 1) && !iw line p
theorem fr4 (line : List UInt8) (p : Nat) : fr line (fre 4) p = wbg line p := rfl
theorem fr5 (line : List UInt8) (p : Nat) : fr line (fre 5) p = wed line p := rfl
theorem V_at {l : List Th} {line : List UInt8} {a : Nat} : V l line a a = Pb l line a (fun k => decide (k = 0)) := by
  cases a with
  | zero => unfold V; rw [if_pos rfl]
  | succ a => unfold V; rw [if_pos rfl]
theorem V_on {l : List Th} {line : List UInt8} {a p : Nat} (h : a ≠ p + 1) : V l line a (p + 1) = Pb l line (p + 1) (Rb l (bn line p) (V l line a p)) := by
  conv => lhs; unfold V
  rw [if_neg h]
theorem V_zero {s line : List UInt8} {a : Nat} : ∀ p, V (wth s) line a p 0 = decide (p = a)
  | 0 => by
    by_cases h : a = 0
    · subst h; rw [V_at]; rfl
    · unfold V; rw [if_neg h]; exact (decide_eq_false (by omega)).symm
  | p + 1 => by
    by_cases h : a = p + 1
    · subst h; rw [V_at]; simp [Pb]
    · rw [V_on h]
      unfold Pb Rb
      rw [wth_first]
      simp [tkm, fre]
      omega
/-- in the word: k of its bytes read -/
theorem V_mid {s line : List UInt8} {a : Nat} : ∀ (p k : Nat), k ≤ s.length → (V (wth s) line a p (k + 1) = true ↔ (p = a + k ∧ wbg line a = true ∧ ∀ j, j < k → bn line (a + j) = bn s j))
  | p, 0, _ => by
    by_cases h : a = p
    · subst h
      rw [V_at]
      unfold Pb
      rw [wth_first, fr4]
      unfold Pb
      simp
    · cases p with
      | zero => unfold V; rw [if_neg h]; constructor
                · intro x; cases x
                · rintro ⟨x, _⟩; omega
      | succ p =>
        rw [V_on h]
        unfold Pb
        have h0 : Pb (wth s) line (p + 1) (Rb (wth s) (bn line p) (V (wth s) line a p)) 0 = false := by
          have := V_zero (s := s) (line := line) (a := a) (p + 1)
          rw [V_on h] at this
          rw [this]; exact decide_eq_false (by omega)
        rw [h0]
        have h1 : Rb (wth s) (bn line p) (V (wth s) line a p) (0 + 1) = false := by
          unfold Rb
          rw [show 0 + 1 - 1 = 0 from rfl, wth_first]
          have hk : tkm (th (wth s) (0 + 1)) (bn line p) = false := by
            cases s with
            | nil => rfl
            | cons b s => rw [wth_mid (k := 0) (by simp)]; rfl
          rw [hk]
          simp [tk1, fre]
        rw [h1]
        simp
        omega
  | 0, k + 1, hk => by
    by_cases h : a = 0
    · subst h
      rw [V_at]
      unfold Pb
      rw [wth_mid (by omega)]
      simp [fr, sg, one]
    · unfold V; rw [if_neg h]; constructor
      · intro x; cases x
      · rintro ⟨x, _⟩; omega
  | p + 1, k + 1, hk => by
    have ih := V_mid (s := s) (line := line) (a := a) p k (by omega)
    by_cases h : a = p + 1
    · subst h
      rw [V_at]
      unfold Pb
      rw [wth_mid (by omega)]
      simp [fr, sg, one]
    · rw [V_on h]
      unfold Pb
      rw [wth_mid (k := k) (by omega)]
      have hf : fr line (sg (at8 s k)) (p + 1) = false := rfl
      rw [hf]
      unfold Rb
      rw [show k + 1 + 1 - 1 = k + 1 from rfl, wth_mid (k := k) (by omega)]
      have hk2 : tkm (th (wth s) (k + 1 + 1)) (bn line p) = false := by
        by_cases hl : k + 1 < s.length
        · rw [wth_mid hl]; rfl
        · rw [show k + 1 = s.length by omega, wth_last]; rfl
      rw [hk2]
      have ht : tk1 (sg (at8 s k)) (bn line p) = decide (bn line p = bn s k) := by
        unfold tk1 sg one bn
        simp [BEq.beq]
      rw [ht]
      simp only [Bool.false_and, Bool.and_false, Bool.or_false, Bool.and_eq_true, decide_eq_true_eq, ih]
      constructor
      · rintro ⟨_, h3, h4, h5, h6⟩
        refine ⟨by omega, h5, fun j hj => ?_⟩
        by_cases hjk : j = k
        · subst hjk; rw [← h4]; exact h3
        · exact h6 j (by omega)
      · rintro ⟨h3, h4, h5⟩
        refine ⟨by omega, ?_, by omega, h4, fun j hj => h5 j (by omega)⟩
        have := h5 k (by omega)
        rw [show p = a + k by omega]; exact this
/-- the word stands at a, whole -/
def Wm (s line : List UInt8) (a : Nat) : Prop := Sta s line a ∧ wbg line a = true ∧ wed line (a + s.length) = true
theorem M_word {s line : List UInt8} {a b : Nat} : M (wth s) line a b = true ↔ (b = a + s.length ∧ Wm s line a) := by
  have hm := V_mid (s := s) (line := line) (a := a) b s.length (Nat.le_refl _)
  have key : M (wth s) line a b = (wed line b && V (wth s) line a b (s.length + 1)) := by
    unfold M
    rw [wth_length]
    by_cases h : a = b
    · subst h
      rw [V_at]
      conv => lhs; unfold Pb
      rw [wth_last, fr5]
      simp
    · cases b with
      | zero => unfold V; rw [if_neg h]; simp
      | succ b =>
        rw [V_on h]
        conv => lhs; unfold Pb
        rw [wth_last, fr5]
        have h1 : Rb (wth s) (bn line b) (V (wth s) line a b) (s.length + 1 + 1) = false := by
          unfold Rb
          rw [show s.length + 1 + 1 - 1 = s.length + 1 from rfl, wth_last, wth_length]
          simp [tk1, fre]
        rw [h1, Bool.false_or]
  rw [key, Bool.and_eq_true, hm]
  unfold Wm Sta
  constructor
  · rintro ⟨h1, h2, h3, h4⟩
    subst h2
    exact ⟨rfl, h4, h3, h1⟩
  · rintro ⟨h1, h2, h3, h4⟩
    subst h1
    exact ⟨h4, rfl, h3, h2⟩
end Go.Proofs.Ytaakgoojcogbcaa
/- class.Runs, and where a text is cut into runs. -/
namespace Go.Proofs.Ytaakgoojcogbcaa
open Go.RowKit
/-- a run ends behind the byte i -/
def cut (K : Nat → Int) (n i : Nat) : Bool := decide (i + 1 = n ∨ ¬ K i = K (i + 1))
/-- the ends of the runs among the first k bytes -/
def rn (K : Nat → Int) (n k : Nat) : List Nat := ((List.range k).filter (cut K n)).map (· + 1)
theorem rn_yes {K : Nat → Int} {n k : Nat} (h : cut K n k = true) : rn K n (k + 1) = rn K n k ++ [k + 1] := by
  unfold rn; rw [List.range_succ, List.filter_append, List.map_append]; simp [h]
theorem rn_no {K : Nat → Int} {n k : Nat} (h : cut K n k = false) : rn K n (k + 1) = rn K n k := by
  unfold rn; rw [List.range_succ, List.filter_append, List.map_append]; simp [h]
theorem rn_len (K : Nat → Int) (n k : Nat) : (rn K n k).length ≤ k := by
  unfold rn; rw [List.length_map]; exact Nat.le_trans (List.length_filter_le _ _) (by rw [List.length_range]; exact Nat.le_refl _)
theorem rn_more (K : Nat → Int) (n f : Nat) : ∀ d, ∃ X, rn K n (f + d) = rn K n f ++ X
  | 0 => ⟨[], by simp⟩
  | d + 1 => by
    obtain ⟨X, hX⟩ := rn_more K n f d
    cases h : cut K n (f + d) with
    | true => exact ⟨X ++ [f + d + 1], by rw [← Nat.add_assoc, rn_yes h, hX, List.append_assoc]⟩
    | false => exact ⟨X, by rw [← Nat.add_assoc, rn_no h, hX]⟩
theorem rn_calm (K : Nat → Int) (n f : Nat) : ∀ d, (∀ j, f ≤ j → j < f + d → cut K n j = false) → rn K n (f + d) = rn K n f
  | 0, _ => by simp
  | d + 1, h => by rw [← Nat.add_assoc, rn_no (h _ (by omega) (by omega)), rn_calm K n f d (fun j h1 h2 => h j h1 (by omega))]
/-- the next run's end -/
theorem first_cut (K : Nat → Int) (n : Nat) : ∀ d f, f + d = n → 0 < d → ∃ e, f < e ∧ e ≤ n ∧ cut K n (e - 1) = true ∧ ∀ j, f ≤ j → j + 1 < e → cut K n j = false
  | 0, _, _, h => by omega
  | d + 1, f, h, _ => by
    cases hc : cut K n f with
    | true => exact ⟨f + 1, by omega, by omega, hc, fun j h1 h2 => by omega⟩
    | false =>
      have hd : 0 < d := by
        rcases Nat.eq_zero_or_pos d with h0 | h0
        · subst h0
          have : cut K n f = true := decide_eq_true (.inl (by omega))
          rw [hc] at this; cases this
        · exact h0
      obtain ⟨e, h1, h2, h3, h4⟩ := first_cut K n d (f + 1) (by omega) hd
      refine ⟨e, by omega, h2, h3, fun j h5 h6 => ?_⟩
      rcases Nat.lt_or_ge f j with h7 | h7
      · exact h4 j (by omega) h6
      · obtain rfl : j = f := by omega
        exact hc
theorem calm_same {K : Nat → Int} {n f e : Nat} (h : ∀ j, f ≤ j → j + 1 < e → cut K n j = false) : ∀ d, f + d < e → K (f + d) = K f
  | 0, _ => rfl
  | d + 1, hd => by
    have h1 := h (f + d) (by omega) (by omega)
    have h2 := calm_same h d (by omega)
    have h3 := of_decide_eq_false h1
    rw [← Nat.add_assoc, ← h2]
    apply Classical.byContradiction
    intro h4
    exact h3 (.inr fun h5 => h4 h5.symm)
/-- behind i runs, at f -/
theorem run_next {K : Nat → Int} {n f : Nat} (hf : f < n) : ∃ e, f < e ∧ e ≤ n ∧ rn K n e = rn K n f ++ [e] ∧ (rn K n n)[(rn K n f).length]? = some e ∧ (∀ j, f ≤ j → j < e → K j = K f) ∧ (e < n → ¬ K e = K f) := by
  obtain ⟨e, h1, h2, h3, h4⟩ := first_cut K n (n - f) f (by omega) (by omega)
  have hr : rn K n e = rn K n f ++ [e] := by
    have e1 : e - 1 + 1 = e := by omega
    have := rn_yes h3
    rw [e1] at this
    rw [this]
    have h5 := rn_calm K n f (e - 1 - f) (fun j h6 h7 => h4 j h6 (by omega))
    rw [show f + (e - 1 - f) = e - 1 from by omega] at h5
    rw [h5]
  have hK : ∀ j, f ≤ j → j < e → K j = K f := fun j h5 h6 => by
    have := calm_same h4 (j - f) (by omega)
    rwa [show f + (j - f) = j from by omega] at this
  refine ⟨e, h1, h2, hr, ?_, hK, fun h5 h6 => ?_⟩
  · obtain ⟨X, hX⟩ := rn_more K n e (n - e)
    rw [show e + (n - e) = n from by omega] at hX
    rw [hX, hr, List.append_assoc, List.getElem?_append_right (Nat.le_refl _), Nat.sub_self]; rfl
  · have h7 := of_decide_eq_true h3
    have h8 := hK (e - 1) (by omega) (by omega)
    rw [show e - 1 + 1 = e from by omega] at h7
    rcases h7 with h7 | h7
    · omega
    · exact h7 (h8.trans h6.symm)

/-- the kind of the byte i -/
def kn (l : List UInt8) (big : Bool) (i : Nat) : Int := kd ((at8 l i).toNat : Int) big
theorem kd_big {x y : Int} (h : kd x false = kd y false) : kd x true = kd y true := by
  unfold kd at h ⊢
  simp only [Bool.false_eq_true, false_or, true_or, if_true] at h ⊢
  repeat' split at h
  all_goals (first | omega | (repeat' split) <;> omega)
def iv (l : List Nat) : List Value := l.map fun (x : Nat) => Value.int .i64 (x : Int)
theorem iv_length (l : List Nat) : (iv l).length = l.length := by simp [iv]
theorem iv_one (l : List Nat) : ∀ u ∈ iv l, u.oneCell' = true := by
  intro u hu; obtain ⟨x, _, rfl⟩ := List.mem_map.1 hu; rfl
theorem iv_snoc (l : List Nat) (k : Nat) : iv (l ++ [k]) = iv l ++ [.int .i64 (k : Int)] := by simp [iv]
theorem iv_at {l : List Nat} {i k : Nat} (h : l[i]? = some k) : (iv l)[i]? = some (.int .i64 (k : Int)) := by simp [iv, h]
theorem iv_snoc' (l : List Nat) (k : Nat) : iv (l ++ [k + 1]) = iv l ++ [.int .i64 ((k : Int) + 1)] := by simp [iv]

set_option maxRecDepth 8000 in
set_option maxHeartbeats 4000000 in
theorem runs_any (ao : Option Addr) (n c : Nat) (l : List UInt8) (big : Bool) (w : World) (hn : n ≤ 4398046511104) (HT : Hid (Tx w ao n c l)) :
    Calls Try.prog 27 #[.slice ao n c, .bool big] w fun e w' => ∃ v, e = .returned v ∧ w'.ownsRow w.heap.size 3 1 v (rn (kn l big) n n).length (iv (rn (kn l big) n n)) ∧ Below w.heap.size w w' := by
  obtain ⟨i3, hi3, hz3, hs3, hb3⟩ := info_parts info3
  go_enter Try.func27, Try.ntmps27
  go_wp2_with fail
  go_loopw [5, 9] (fun u v wr => ∃ k : Nat, v = .int .i64 k ∧ k ≤ n ∧ wr.ownsRow w.heap.size 3 1 u (rn (kn l big) n k).length (iv (rn (kn l big) n k)) ∧ Below w.heap.size w wr) (fun _ v _ => n - (intOf v).toNat)
  case atStart => exact ⟨0, rfl, Nat.zero_le _, World.ownsRow_nil _ _ _ _, Below.refl _ _⟩
  case round =>
    obtain ⟨k, rfl, hk, hO, hB⟩ := hrel
    have HO := Hid.mk' hO
    have HB := Hid.mk' hB
    have HR := Hid.mk' (rn_len (kn l big) n k)
    clear hO hB
    by_cases hlt : k < n
    · have hk0 : (0 : Int) ≤ (k : Int) := by omega
      have hk1 : (k : Int) < (n : Int) := by omega
      have hkm : (k : Int) ≤ 4398046511104 := by omega
      obtain ⟨g, o, rfl, hc⟩ := (HT.out.keep HB.out).at (by omega)
      have c1 := hc k hlt
      obtain ⟨ax, cx, hu⟩ := own_shape HO.out
      subst hu
      by_cases hend : k + 1 = n
      · have he : ((k : Int) + 1 == (n : Int)) = true := by simp; omega
        have HC : Hid (rn (kn l big) n (k + 1) = rn (kn l big) n k ++ [k + 1]) := rn_yes (decide_eq_true (.inl hend))
        clear hc
        go_wp2
        go_quiet (fail)
        have B9 := Hid.mk' (below_drewN wr nq)
        generalize wr.drewN nq = w9 at *
        go_wp2_with (at_builtin; refine append_srv rfl (.tmp 33) (.tmp 36) 23 rfl w.heap.size 3 i3 (.int .i64 0) 1 8 Try.underlying23 hi3 hz3 hs3 hb3 rfl (by decide) (.slice ax (rn (kn l big) n k).length cx) (rn (kn l big) n k).length (iv (rn (kn l big) n k)) rfl ((own_keep HO.out B9.out).alloc _) (.slice (some ⟨w9.heap.size, 0, none⟩) 1 1) 1 [.int .i64 ((k : Int) + 1)] rfl (.inr ⟨⟨w9.heap.size, 0, none⟩, 1, rfl, fun j t hj => lit_cells w9 _ 3 j t hj⟩) rfl ?r1 ?r2 ?r3 ?r4 ?_)
        case r1 => intro u hu; simp at hu; subst hu; rfl
        case r2 => have := HR.out; unfold maxLen; omega
        case r3 => have := HR.out; omega
        case r4 => have := HB.out.size; have := B9.out.size; simp; omega
        intro v2 w3 hown2 hgrow2 hfr2
        have B3 : Hid (Below w.heap.size w w3) := ((bT HB.out B9.out).alloc (Nat.le_trans HB.out.size B9.out.size) _).grown hgrow2 (by have := HB.out.size; have := B9.out.size; simp; omega) (fun k hk => (HO.out.lt k hk).1)
        rw [← iv_snoc' _ k] at hown2
        have O3 : Hid (w3.ownsRow w.heap.size 3 1 v2 (rn (kn l big) n (k + 1)).length (iv (rn (kn l big) n (k + 1)))) := by unfold Hid; rw [HC.out]; simpa using hown2
        clear hown2 hgrow2 hfr2 HO HB B9
        go_wp2
        go_roundw
        case rel => exact ⟨k + 1, by go_num, by omega, O3.out, B3.out⟩
        case measure => simp [intOf]; omega
      · have hw1 : IntKind.i64.wrap ((k : Int) + 1) = (k : Int) + 1 := by rw [IntKind.wrap_i64]; omega
        have he : ((k : Int) + 1 == (n : Int)) = false := by simp; omega
        have he0 : (0 : Int) ≤ (k : Int) + 1 := by omega
        have he1 : (k : Int) + 1 < (n : Int) := by omega
        have c2 := hc (k + 1) (by omega)
        clear hc
        by_cases hK : kn l big k = kn l big (k + 1)
        · have hk9 : (kd ((at8 l k).toNat : Int) big != kd ((at8 l (k + 1)).toNat : Int) big) = false := by
            have : kd ((at8 l k).toNat : Int) big = kd ((at8 l (k + 1)).toNat : Int) big := hK
            rw [this]; simp
          have HC : Hid (rn (kn l big) n (k + 1) = rn (kn l big) n k) := rn_no (decide_eq_false (fun h => by rcases h with h | h; exact hend h; exact h hK))
          go_wp2
          go_quiet ((go_at_call 28; exact Calls.quiet_of_same (of_any _ _ _)))
          have B9 := Hid.mk' (below_drewN wr nq)
          generalize wr.drewN nq = w9 at *
          go_wp2
          go_roundw
          case rel => exact ⟨k + 1, by go_num, by omega, by rw [HC.out]; exact own_keep HO.out B9.out, bT HB.out B9.out⟩
          case measure => simp [intOf]; omega
        · have hk9 : (kd ((at8 l k).toNat : Int) big != kd ((at8 l (k + 1)).toNat : Int) big) = true := by
            rw [bne_iff_ne]; exact hK
          have HC : Hid (rn (kn l big) n (k + 1) = rn (kn l big) n k ++ [k + 1]) := rn_yes (decide_eq_true (.inr hK))
          go_wp2
          go_quiet ((go_at_call 28; exact Calls.quiet_of_same (of_any _ _ _)))
          have B9 := Hid.mk' (below_drewN wr nq)
          generalize wr.drewN nq = w9 at *
          go_wp2_with (at_builtin; refine append_srv rfl (.tmp 33) (.tmp 36) 23 rfl w.heap.size 3 i3 (.int .i64 0) 1 8 Try.underlying23 hi3 hz3 hs3 hb3 rfl (by decide) (.slice ax (rn (kn l big) n k).length cx) (rn (kn l big) n k).length (iv (rn (kn l big) n k)) rfl ((own_keep HO.out B9.out).alloc _) (.slice (some ⟨w9.heap.size, 0, none⟩) 1 1) 1 [.int .i64 ((k : Int) + 1)] rfl (.inr ⟨⟨w9.heap.size, 0, none⟩, 1, rfl, fun j t hj => lit_cells w9 _ 3 j t hj⟩) rfl ?r1 ?r2 ?r3 ?r4 ?_)
          case r1 => intro u hu; simp at hu; subst hu; rfl
          case r2 => have := HR.out; unfold maxLen; omega
          case r3 => have := HR.out; omega
          case r4 => have := HB.out.size; have := B9.out.size; simp; omega
          intro v2 w3 hown2 hgrow2 hfr2
          have B3 : Hid (Below w.heap.size w w3) := ((bT HB.out B9.out).alloc (Nat.le_trans HB.out.size B9.out.size) _).grown hgrow2 (by have := HB.out.size; have := B9.out.size; simp; omega) (fun k hk => (HO.out.lt k hk).1)
          rw [← iv_snoc' _ k] at hown2
          have O3 : Hid (w3.ownsRow w.heap.size 3 1 v2 (rn (kn l big) n (k + 1)).length (iv (rn (kn l big) n (k + 1)))) := by unfold Hid; rw [HC.out]; simpa using hown2
          clear hown2 hgrow2 hfr2 HO HB B9
          go_wp2
          go_roundw
          case rel => exact ⟨k + 1, by go_num, by omega, O3.out, B3.out⟩
          case measure => simp [intOf]; omega
    · have hk1 : ¬ (k : Int) < (n : Int) := by omega
      obtain rfl : k = n := by omega
      go_wp2
      go_ret
      exact ⟨_, rfl, HO.out, HB.out⟩

end Go.Proofs.Ytaakgoojcogbcaa
/- The word's hits are the runs that are the word (pure). -/
namespace Go.Proofs.Ytaakgoojcogbcaa
open Go.RowKit
/-- a word's byte at j -/
theorem iw_at {line : List UInt8} {j : Nat} (h : j < line.length) : iw line (j : Int) = decide (kn line false j = 2) := by
  rw [iw_in (by omega) (by omega), Int.toNat_natCast]; rfl
theorem iw_end {line : List UInt8} {j : Nat} (h : line.length ≤ j) : iw line (j : Int) = false := iw_out (by omega)
/-- a run of a line -/
structure Rn1 (line : List UInt8) (f e : Nat) : Prop where
  fe : f < e
  en : e ≤ line.length
  same : ∀ j, f ≤ j → j < e → kn line false j = kn line false f
  lo : f = 0 ∨ ¬ kn line false (f - 1) = kn line false f
  up : e = line.length ∨ ¬ kn line false e = kn line false f
section
variable {s line : List UInt8} {f e : Nat}
theorem Rn1.mid (h : Rn1 line f e) {a : Nat} (h1 : f < a) (h2 : a < e) : ¬ Wm s line a := by
  rintro ⟨_, hb, _⟩
  unfold wbg at hb
  have hen := h.en
  rw [Bool.and_eq_true, iw_at (by omega), show (a : Int) - 1 = ((a - 1 : Nat) : Int) by omega, iw_at (by omega)] at hb
  rw [h.same a (by omega) h2, h.same (a - 1) (by omega) (by omega)] at hb
  obtain ⟨x, y⟩ := hb
  rw [x] at y; cases y
theorem Rn1.wm (h : Rn1 line f e) (hs : ∀ j, j < s.length → iwb (at8 s j) = true) (hw : Wm s line f) : kn line false f = 2 ∧ f + s.length = e := by
  obtain ⟨hst, hb, hd⟩ := hw
  have hen := h.en
  have hfe := h.fe
  unfold wbg at hb
  rw [Bool.and_eq_true, iw_at (by omega)] at hb
  have hk : kn line false f = 2 := of_decide_eq_true hb.1
  refine ⟨hk, ?_⟩
  unfold wed at hd
  rw [Bool.and_eq_true] at hd
  rcases Nat.lt_trichotomy (f + s.length) e with g | g | g
  · have := hd.2
    rw [iw_at (by omega), h.same _ (by omega) g, hk] at this
    cases this
  · exact g
  · have hl : f + s.length ≤ line.length := by
      rcases Nat.lt_or_ge line.length (f + s.length) with x | x
      · have := hd.1
        rw [show ((f + s.length : Nat) : Int) - 1 = ((f + s.length - 1 : Nat) : Int) by omega, iw_end (by omega)] at this
        cases this
      · exact x
    rcases h.up with x | x
    · omega
    · have h1 := hst (e - f) (by omega)
      rw [show f + (e - f) = e by omega] at h1
      have h2 := hs (e - f) (by omega)
      unfold iwb at h2
      have h3 : kn line false e = 2 := by
        unfold kn
        unfold bn at h1
        rw [h1]
        exact of_decide_eq_true h2
      exact absurd (h3.trans hk.symm) x
theorem Rn1.wm_list (h : Rn1 line f e) (hs : ∀ j, j < s.length → iwb (at8 s j) = true) (hw : Wm s line f) : (line.drop f).take (e - f) = s := by
  obtain ⟨_, he⟩ := h.wm hs hw
  have hen := h.en
  refine List.ext_getElem (by rw [List.length_take, List.length_drop]; omega) fun j j1 j2 => ?_
  have h1 := hw.1 j j2
  unfold bn at h1
  rw [at8_eq (by omega), at8_eq j2] at h1
  rw [List.getElem_take, List.getElem_drop]
  exact UInt8.toNat_inj.1 h1
theorem Rn1.of_list (h : Rn1 line f e) (hk : kn line false f = 2) (hl : (line.drop f).take (e - f) = s) : Wm s line f := by
  have hen := h.en
  have hfe := h.fe
  have hsl : s.length = e - f := by rw [← hl, List.length_take, List.length_drop]; omega
  refine ⟨fun j hj => ?_, ?_, ?_⟩
  · unfold bn
    rw [at8_eq (by omega), at8_eq hj]
    have : s[j] = line[f + j]'(by omega) := by
      have h9 : s[j]? = ((line.drop f).take (e - f))[j]? := by rw [hl]
      rw [List.getElem?_eq_getElem hj, List.getElem?_take, if_pos (by omega), List.getElem?_drop, List.getElem?_eq_getElem (by omega)] at h9
      injection h9
    rw [this]
  · unfold wbg
    rw [Bool.and_eq_true]
    refine ⟨by rw [iw_at (by omega), hk]; rfl, ?_⟩
    rcases h.lo with x | x
    · rw [iw_out (by omega)]; rfl
    · by_cases h0 : f = 0
      · rw [iw_out (by omega)]; rfl
      · rw [show (f : Int) - 1 = ((f - 1 : Nat) : Int) by omega, iw_at (by omega), decide_eq_false (fun y => x (y.trans hk.symm))]; rfl
  · unfold wed
    rw [Bool.and_eq_true, hsl, show f + (e - f) = e by omega]
    refine ⟨by rw [show (e : Int) - 1 = ((e - 1 : Nat) : Int) by omega, iw_at (by omega), h.same (e - 1) (by omega) (by omega), hk]; rfl, ?_⟩
    rcases Nat.lt_or_ge e line.length with x | x
    · rcases h.up with y | y
      · omega
      · rw [iw_at x, decide_eq_false (fun z => y (z.trans hk.symm))]; rfl
    · rw [iw_end x]; rfl
/-- the hits that are left, at f -/
def Hl (s line : List UInt8) (ys : List (Nat × Nat)) (f : Nat) : Prop :=
  ∃ F f', F ≤ f ∧ (∀ a, F ≤ a → a < f → ¬ Wm s line a) ∧ AC (wth s) line F ys f' ∧ (line.length < f' ∨ FS (wth s) line f' 0 0 false)
theorem Hl.start {ys : List (Nat × Nat)} (h : AR (wth s) line ys) : Hl s line ys 0 := by
  obtain ⟨f', h1, h2⟩ := h
  exact ⟨0, f', Nat.le_refl _, fun a h3 h4 => by omega, h1, h2⟩
theorem fs_wm {F a b : Nat} (h : FS (wth s) line F a b true) : F ≤ a ∧ b = a + s.length ∧ b ≤ line.length ∧ Wm s line a ∧ ∀ k, F ≤ k → k < a → k + s.length ≤ line.length → ¬ Wm s line k := by
  rcases h with ⟨_, h1, h2, h3, h4, h5, h6⟩ | ⟨h, _⟩
  · obtain ⟨h7, h8⟩ := M_word.1 h4
    refine ⟨h1, h7, h3, h8, fun k k1 k2 k3 hw => ?_⟩
    have := h5 k k1 k2 (k + s.length) k3
    rw [M_word.2 ⟨rfl, hw⟩] at this; cases this
  · cases h
theorem Hl.hit {ys : List (Nat × Nat)} (h : Hl s line ys f) (hr : Rn1 line f e) (hs : ∀ j, j < s.length → iwb (at8 s j) = true) (hw : Wm s line f) : ∃ r, ys = (f, e) :: r ∧ Hl s line r e := by
  obtain ⟨F, f', h1, h2, h3, h4⟩ := h
  obtain ⟨_, he⟩ := hr.wm hs hw
  have hen := hr.en
  have hfe := hr.fe
  cases ys with
  | nil =>
    cases h3
    rcases h4 with x | x
    · omega
    · rcases x with ⟨x, _⟩ | ⟨_, _, _, x⟩
      · cases x
      · have := x f h1 e hen
        rw [M_word.2 ⟨he.symm, hw⟩] at this; cases this
  | cons y r =>
    obtain ⟨a, b⟩ := y
    obtain ⟨k1, k2, k3⟩ := h3
    obtain ⟨q1, q2, q3, q4, q5⟩ := fs_wm k2
    have ha : a = f := by
      rcases Nat.lt_trichotomy a f with x | x | x
      · exact absurd q4 (h2 a q1 x)
      · exact x
      · exact absurd hw (q5 f h1 x (by omega))
    subst ha
    have hb : b = e := by omega
    subst hb
    have hn : nx1 a b = b := by unfold nx1; rw [if_neg (by omega)]
    rw [hn] at k3
    exact ⟨r, rfl, b, f', Nat.le_refl _, fun x x1 x2 => by omega, k3, h4⟩
theorem Hl.miss {ys : List (Nat × Nat)} (h : Hl s line ys f) (hr : Rn1 line f e) (hw : ¬ Wm s line f) : Hl s line ys e ∧ ∀ y r, ys = y :: r → y.1 ≠ f := by
  obtain ⟨F, f', h1, h2, h3, h4⟩ := h
  have hfe := hr.fe
  refine ⟨⟨F, f', by omega, fun a a1 a2 => ?_, h3, h4⟩, fun y r hy he => ?_⟩
  · rcases Nat.lt_trichotomy a f with x | x | x
    · exact h2 a a1 x
    · rw [x]; exact hw
    · exact hr.mid x a2
  · subst hy
    obtain ⟨a, b⟩ := y
    obtain ⟨k1, k2, k3⟩ := h3
    have := (fs_wm k2).2.2.2.1
    simp only at he
    rw [he] at this
    exact hw this
theorem Hl.done {ys : List (Nat × Nat)} (h : Hl s line ys line.length) : ys = [] := by
  obtain ⟨F, f', h1, h2, h3, h4⟩ := h
  cases ys with
  | nil => rfl
  | cons y r =>
    obtain ⟨a, b⟩ := y
    obtain ⟨k1, k2, k3⟩ := h3
    obtain ⟨q1, q2, q3, q4, q5⟩ := fs_wm k2
    rcases Nat.lt_or_ge a line.length with x | x
    · exact absurd q4 (h2 a q1 x)
    · have := q4.2.1
      unfold wbg at this
      rw [iw_end x] at this; cases this
end
end Go.Proofs.Ytaakgoojcogbcaa
/- The word stands whole in a line of its text (pure). -/
namespace Go.Proofs.Ytaakgoojcogbcaa
open Go.RowKit
theorem wlist_at {t : List UInt8} {s x j : Nat} (h : j < x - s) : at8 (wlist t s x) j = at8 t (s + j) := by
  rw [← at8_drop]
  unfold wlist
  simp [at8, List.getD, h]
theorem wlist_len {t : List UInt8} {s x : Nat} (h : x ≤ t.length) : (wlist t s x).length = x - s := by
  unfold wlist; rw [List.length_take, List.length_drop]; omega
theorem wd_word {t : List UInt8} {k s x : Nat} (h : WdS t k s x) (hx : x ≤ t.length) : ∀ j, j < (wlist t s x).length → iwb (at8 (wlist t s x) j) = true := fun j hj => by
  rw [wlist_len hx] at hj
  rw [wlist_at hj]
  exact h.all (s + j) (by omega) (by omega)
theorem wd_line {t : List UInt8} {k s x : Nat} (h : WdS t k s x) (hx : x ≤ t.length) : ∃ i0 f0, i0 ≤ nl t ∧ f0 < (ln t i0).length ∧ Wm (wlist t s x) (ln t i0) f0 := by
  have hsx : s < x := by obtain ⟨a, _, _, _, _, h5, h6⟩ := h.a; omega
  have hb := bg_le t s
  have he := en_ge t s
  have hel := en_le (t := t) (s := s) (by omega)
  have hxe : x ≤ en t s := by
    rcases Nat.lt_or_ge (en t s) x with g | g
    · have h1 := iwt_end (t := t) (k := s) (by omega)
      rw [h.all _ he g] at h1; cases h1
    · exact g
  have hln : ln t (nl (t.take s)) = lp t s := by
    unfold ln lp
    rw [sp_of t s (by omega), en_bg (by omega)]
  have hll := lp_len (t := t) (p := s) (by omega)
  have hk : ∀ j, j < en t s - bg t s → kn (lp t s) false j = kd ((at8 t (bg t s + j)).toNat : Int) false := fun j hj => by unfold kn; rw [lp_at hj]
  refine ⟨nl (t.take s), s - bg t s, nl_take_le t s, by rw [hln, hll]; omega, ?_⟩
  rw [hln]
  refine ⟨fun j hj => ?_, ?_, ?_⟩
  · rw [wlist_len hx] at hj
    unfold bn
    rw [lp_at (by omega), wlist_at hj, show bg t s + (s - bg t s + j) = s + j by omega]
  · unfold wbg
    rw [Bool.and_eq_true]
    constructor
    · rw [iw_at (by omega), hk _ (by omega), show bg t s + (s - bg t s) = s by omega]
      exact h.all s (Nat.le_refl _) hsx
    · by_cases h0 : s - bg t s = 0
      · rw [iw_out (by omega)]; rfl
      · rw [show ((s - bg t s : Nat) : Int) - 1 = ((s - bg t s - 1 : Nat) : Int) by omega, iw_at (by omega), hk _ (by omega), show bg t s + (s - bg t s - 1) = s - 1 by omega]
        rcases h.lo with y | y
        · omega
        · have y2 : decide (kd ((at8 t (s - 1)).toNat : Int) false = 2) = false := y
          rw [y2]; rfl
  · unfold wed
    rw [Bool.and_eq_true, wlist_len hx]
    constructor
    · rw [show ((s - bg t s + (x - s) : Nat) : Int) - 1 = ((s - bg t s + (x - s) - 1 : Nat) : Int) by omega, iw_at (by omega), hk _ (by omega), show bg t s + (s - bg t s + (x - s) - 1) = x - 1 by omega]
      exact h.all (x - 1) (by omega) (by omega)
    · rcases Nat.lt_or_ge (s - bg t s + (x - s)) (en t s - bg t s) with g | g
      · rw [iw_at (by omega), hk _ g, show bg t s + (s - bg t s + (x - s)) = x by omega]
        rcases h.up with y | y
        · omega
        · have y2 : decide (kd ((at8 t x).toNat : Int) false = 2) = false := y
          rw [y2]; rfl
      · rw [iw_end (by omega)]; rfl
end Go.Proofs.Ytaakgoojcogbcaa
