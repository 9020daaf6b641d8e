/- The reference's Find and All, out of its search's contract; the laws' same. -/
import Derived.Test.YtaakgoojcogbcaaXo
namespace Go.Proofs.Ytaakgoojcogbcaa
open Go.RowKit
/-- the contract of the reference's search -/
def SearchC : Prop := ∀ (w : World) (base : Nat) (av : Option Addr) (cv : Nat) (rl : List Th) (ao : Option Addr) (nl cl : Nat) (line : List UInt8) (f : Int), rl.length ≤ 256 → Kin rl → w.ownsRow base 106 257 (.slice av rl.length cv) rl.length (tvs rl) → Tx w ao nl cl line →
  Calls Try.prog 34 #[.slice av rl.length cv, .slice ao nl cl, .int .i64 f] w fun e w' => Fnd rl line f w e w'
theorem Req.FI {l rl : List Th} (h : Req l rl) {line : List UInt8} {f : Int} {a b : Nat} {ok : Bool} (hf : FI rl line f a b ok) : FI l line f a b ok := by
  rcases hf with h1 | ⟨h1, h2, h3⟩
  · exact .inl h1
  · exact .inr ⟨h1, h2, h.FS h3⟩
theorem Req.kin {l rl : List Th} (h : Req l rl) (hk : Kin l) : Kin rl := by
  intro t ht
  obtain ⟨j, hj, e⟩ := List.mem_iff_getElem.1 ht
  have h1 : th rl j = t := by unfold th; simp [List.getD, hj, e]
  rw [← h1, h.k j]
  exact kin_th hk (by rw [← h.len]; exact hj)
/-- what the reference's Find answers -/
def RfP (p line : List UInt8) (f : Int) (w : World) (e : Ending) (w' : World) : Prop :=
  Below w.heap.size w w' ∧ ∃ (a b : Nat) (ok : Bool), e = .returned (.tuple #[.int .i64 (a : Int), .int .i64 (b : Int), .bool ok]) ∧ ((p.length ≤ 256 ∧ (cmp p).1 = -1) → FI (cmp p).2 line f a b ok)
set_option maxRecDepth 8000 in
set_option maxHeartbeats 4000000 in
theorem rfind_any (HSC : SearchC) (w : World) (ap : Option Addr) (np cp_ : Nat) (p : List UInt8) (ao : Option Addr) (nl cl : Nat) (line : List UInt8) (f : Int) (HP : Hid (Tx w ap np cp_ p)) (HT : Hid (Tx w ao nl cl line)) :
    Calls Try.prog 14 #[.slice ap np cp_, .slice ao nl cl, .int .i64 f] w fun e w' => RfP p line f w e w' := by
  have C := Hid.mk' (things_any w ap np cp_ p HP)
  go_enter Try.func14, Try.ntmps14
  go_wp2_with fail
  refine C.out.mono ?_
  rintro e w1 ⟨hb, h⟩
  rcases h with ⟨h1, rfl⟩ | ⟨h1, h2, rfl⟩ | ⟨h1, h2, h3, v, rl, rfl, hq, ho⟩
  · go_wp2
    go_ret3
    exact ⟨hb, 0, 0, false, rfl, fun h => by omega⟩
  · go_wp2
    go_ret3
    exact ⟨hb, 0, 0, false, rfl, fun h => absurd h.2 h2⟩
  · obtain ⟨ax, cx, e⟩ := own_shape ho
    subst e
    have CS := Hid.mk' (HSC w1 _ ax cx rl ao nl cl line f (by rw [hq.len]; omega) (hq.kin (cmp_kin p)) ho (HT.out.keep hb))
    have HQ := Hid.mk' hq
    clear ho hq
    go_wp2_with fail
    refine CS.out.mono ?_
    rintro e w2 ⟨a, b, ok, rfl, hfi, hb2⟩
    go_wp2
    go_ret3
    exact ⟨bT hb hb2, a, b, ok, rfl, fun _ => HQ.out.FI hfi⟩
/-- what the reference's All answers -/
def RaP (p line : List UInt8) (w : World) (e : Ending) (w' : World) : Prop :=
  Below w.heap.size w w' ∧ ∃ v xs, e = .returned v ∧ xs.length ≤ line.length + 1 ∧ w'.ownsRow w.heap.size 37 2 v xs.length (pvs xs) ∧ ((p.length ≤ 256 ∧ (cmp p).1 = -1) → AR (cmp p).2 line xs)
set_option maxRecDepth 8000 in
set_option maxHeartbeats 8000000 in
theorem rallS_any (HSC : SearchC) (w : World) (ap : Option Addr) (np cp_ : Nat) (p : List UInt8) (ao : Option Addr) (nl cl : Nat) (line : List UInt8) (hnl : nl ≤ 65536) (hok : p.length ≤ 256 ∧ (cmp p).1 = -1) (HP : Hid (Tx w ap np cp_ p)) (HT : Hid (Tx w ao nl cl line)) :
    Calls Try.prog 16 #[.slice ap np cp_, .slice ao nl cl] w fun e w' => RaP p line w e w' := by
  obtain ⟨i0, hi, hz0, hz1, hz2⟩ : ∃ i, Try.prog.info? 37 = some i ∧ i.zero = some (.agg #[.int .i64 0, .int .i64 0]) ∧ i.size = 2 ∧ i.bytes = 16 := by
    have := info41
    cases h : Try.prog.info? 37 with
    | none => rw [h] at this; cases this
    | some i => rw [h] at this; simp at this; exact ⟨i, rfl, this.1, this.2.1, this.2.2⟩
  have hlen := HT.out.len
  have C := Hid.mk' (things_any w ap np cp_ p HP)
  go_enter Try.func16, Try.ntmps16
  go_wp2_with fail
  refine C.out.mono ?_
  rintro e w1 ⟨hb, h⟩
  rcases h with ⟨h1, rfl⟩ | ⟨h1, h2, rfl⟩ | ⟨h1, h2, h3, v, rl, rfl, hq, ho⟩
  · omega
  · exact absurd hok.2 h2
  · obtain ⟨ax, cx, e⟩ := own_shape ho
    subst e
    have hrl : rl.length ≤ 256 := by rw [hq.len]; omega
    have HK := Hid.mk' (hq.kin (cmp_kin p))
    have HQ := Hid.mk' hq
    have HO := Hid.mk' ho
    have HB1 := Hid.mk' hb
    have HT1 := Hid.mk' (HT.out.keep hb)
    obtain ⟨l, HLL⟩ : ∃ l, Hid ((cmp p).2 = l) := ⟨_, rfl⟩
    rw [HLL.out] at HQ
    clear ho hq hb C hok h1 h2 h3
    go_wp2_with fail
    go_loopg [8, 9, 10, 11, 12] (nl + 2) (fun m x8 x9 x10 x11 x12 wx => ∃ (f : Nat) (xs : List (Nat × Nat)), x9 = .int .i64 (f : Int) ∧ f ≤ nl + 1 ∧ m + f = nl + 2 ∧ xs.length ≤ f ∧ Hid (AC l line 0 xs f) ∧ Hid (Below w1.heap.size w1 wx) ∧ Hid (wx.ownsRow w1.heap.size 37 2 x8 xs.length (pvs xs)))
    case atStart => exact ⟨0, [], rfl, by omega, by omega, Nat.le_refl _, rfl, Below.refl _ _, rfl, .inl ⟨rfl, rfl⟩⟩
    case round =>
      obtain ⟨f, xs, rfl, hf1, hm, hx, HA, HB, HO5⟩ := hrel
      obtain ⟨a5, c5, e5⟩ := own_shape HO5.out
      subst e5
      by_cases hfn : f ≤ nl
      · have hfn' : (f : Int) ≤ (nl : Int) := by omega
        have CS := Hid.mk' (HSC wr _ ax cx rl ao nl cl line (f : Int) hrl HK.out (own_keep HO.out HB.out) (HT1.out.keep HB.out))
        go_wp2_with fail
        refine CS.out.mono ?_
        rintro e w2 ⟨a, b, ok, rfl, hfi, hb2⟩
        have hfs : FS l line f a b ok := by
          rcases HQ.out.FI hfi with ⟨h9, _⟩ | ⟨_, _, h9⟩
          · omega
          · rw [Int.toNat_natCast] at h9; exact h9
        have HFS := Hid.mk' hfs
        have B2 := Hid.mk' (bT HB.out hb2)
        have O2 := Hid.mk' (own_keep HO5.out hb2)
        clear hfs hfi hb2 CS HB HO5
        cases ok with
        | false =>
          have hab : a = 0 ∧ b = 0 := by
            rcases HFS.out with h | h
            · cases h.1
            · exact ⟨h.2.1, h.2.2.1⟩
          obtain ⟨rfl, rfl⟩ := hab
          go_wp2
          go_ret
          exact ⟨bT HB1.out B2.out, _, xs, rfl, by omega, own_lower O2.out HB1.out.size, fun _ => by rw [HLL.out]; exact ⟨f, HA.out, .inr HFS.out⟩⟩
        | true =>
          have hn1 := nx1_le HFS.out
          have hle := HFS.out.le
          go_wp2_with (first | (at_builtin; refine append_srv rfl (.tmp 37) (.tmp 41) 33 rfl w1.heap.size 37 i0 (.agg #[.int .i64 0, .int .i64 0]) 2 16 Try.underlying33 hi hz0 hz1 hz2 rfl (by decide) (.slice a5 xs.length c5) xs.length (pvs xs) rfl (O2.out.alloc _) (.slice (some ⟨w2.heap.size, 0, none⟩) 1 1) 1 [.int .i64 (a : Int), .int .i64 (b : Int)] rfl (.inr ⟨⟨w2.heap.size, 0, none⟩, 1, rfl, fun k u hk => lit_cells w2 _ 37 k u hk⟩) rfl (by intro u hu; simp at hu; rcases hu with rfl | rfl <;> rfl) (by unfold maxLen; omega) (by omega) (bAlloc B2.out _).size ?_))
          intro v5 w5 hown hgrow _
          have L5 : Hid (Below w1.heap.size w1 w5) := (bAlloc B2.out _).grown hgrow (bAlloc B2.out _).size (fun k hk => (O2.out.lt k hk).1)
          have O5 : Hid (w5.ownsRow w1.heap.size 37 2 v5 (xs ++ [(a, b)]).length (pvs (xs ++ [(a, b)]))) := by
            unfold Hid; rw [pvs_snoc, List.length_append]; exact hown
          have HA2 := Hid.mk' (HA.out.snoc (by omega) HFS.out)
          clear hown hgrow O2 B2 HA
          by_cases hab : a = b
          · have hab' : ((a : Int) == (b : Int)) = true := by simp; omega
            have HNX : Hid (nx1 a b = b + 1) := by unfold Hid nx1; rw [if_pos hab]
            clear hab
            go_wp2
            go_roundg (nl + 2 - (b + 1))
            case measure => rw [HNX.out] at hn1; omega
            case rel => exact ⟨b + 1, xs ++ [(a, b)], by go_num, by omega, by omega, by rw [HNX.out] at hn1; simp; omega, by rw [HNX.out] at HA2; exact HA2.out, L5.out, O5.out⟩
          · have hab' : ((a : Int) == (b : Int)) = false := by simp; omega
            have HNX : Hid (nx1 a b = b) := by unfold Hid nx1; rw [if_neg hab]
            go_wp2
            go_roundg (nl + 2 - b)
            case measure => rw [HNX.out] at hn1; omega
            case rel => exact ⟨b, xs ++ [(a, b)], by go_num, by omega, by omega, by rw [HNX.out] at hn1; simp; omega, by rw [HNX.out] at HA2; exact HA2.out, L5.out, O5.out⟩
      · have hfn' : ¬ ((f : Int) ≤ (nl : Int)) := by omega
        have hfd : decide ((f : Int) ≤ (nl : Int)) = false := decide_eq_false hfn'
        go_wp2
        go_ret
        exact ⟨bT HB1.out HB.out, _, xs, rfl, by omega, own_lower HO5.out HB1.out.size, fun _ => by rw [HLL.out]; exact ⟨f, HA.out, .inl (by omega)⟩⟩
end Go.Proofs.Ytaakgoojcogbcaa
/- For the reference's search: its rows, its things, what its pass loop leaves. -/
namespace Go.Proofs.Ytaakgoojcogbcaa
open Go.RowKit
/-- numbers in memory, -1 too -/
def iva (h : Nat → Int) (m : Nat) : Array Value := ((List.range m).map fun i => Value.int .i64 (h i)).toArray
theorem iva_at (h : Nat → Int) {m j : Nat} (hj : j < m) : (iva h m)[j]? = some (.int .i64 (h j)) := by simp [iva, hj]
theorem iva_set (h : Nat → Int) (m k : Nat) (v : Int) : (iva h m).setIfInBounds k (.int .i64 v) = iva (fun i => if i = k then v else h i) m := by
  apply Array.ext'
  simp only [iva, Array.toList_setIfInBounds, List.toList_toArray]
  apply List.ext_getElem
  · simp
  · intro i h1 h2
    simp only [List.length_map, List.length_range] at h2
    rw [List.getElem_set]
    simp only [List.getElem_map, List.getElem_range]
    by_cases h : k = i
    · rw [if_pos h, if_pos h.symm]
    · rw [if_neg h, if_neg (fun e => h e.symm)]
theorem iva_congr {g h : Nat → Int} {m : Nat} (e : ∀ i, i < m → g i = h i) : iva g m = iva h m := by
  unfold iva; congr 1; apply List.map_congr_left; intro i hi; rw [e i (List.mem_range.1 hi)]
theorem tvs_at : ∀ (rl : List Th) {i j : Nat}, i < rl.length → j < 257 → (tvs rl)[i * 257 + j]? = (tvl (th rl i).k (th rl i).s)[j]?
  | [], i, j, hi, hj => by simp at hi
  | t :: r, 0, j, hi, hj => by
    have : th (t :: r) 0 = t := rfl
    rw [this]
    simp only [tvs, List.flatMap_cons, Nat.zero_mul, Nat.zero_add]
    rw [List.getElem?_append_left (by rw [tvl_len]; exact hj)]
  | t :: r, i + 1, j, hi, hj => by
    have ih := tvs_at r (i := i) (j := j) (by simpa using hi) hj
    have : th (t :: r) (i + 1) = th r i := rfl
    rw [this, ← ih]
    simp only [tvs, List.flatMap_cons]
    rw [List.getElem?_append_right (by rw [tvl_len]; omega), tvl_len, show (i + 1) * 257 + j - 257 = i * 257 + j by omega]
/-- the reference's things, to be read -/
def Rts (W : World) (av : Option Addr) (rl : List Th) : Prop := ∀ i, i < rl.length → ∃ gt, av = some ⟨gt, 0, none⟩ ∧ W.rangeAt gt (i * 257) (tvl (th rl i).k (th rl i).s)
theorem rts_own {W : World} {base : Nat} {av : Option Addr} {cv : Nat} {rl : List Th} (h : W.ownsRow base 106 257 (.slice av rl.length cv) rl.length (tvs rl)) : Rts W av rl := by
  intro i hi
  obtain ⟨gt, cp, e1, _, _⟩ := own_some h (by omega)
  injection e1 with e1 _ _
  subst e1
  refine ⟨gt, rfl, fun j v hv => row_cell h ?_⟩
  have hj : j < 257 := by have := (List.getElem?_eq_some_iff.1 hv).1; rw [tvl_len] at this; exact this
  rw [tvs_at rl hi hj]; exact hv
theorem range_keep {W W' : World} {g o : Nat} {cs : List Value} (h : W.rangeAt g o cs) (hb : Below W.heap.size W W') : W'.rangeAt g o cs := fun j v hv => keepC hb (h j v hv)
theorem Rts.keep {W W' : World} {av : Option Addr} {rl : List Th} (h : Rts W av rl) (hb : Below W.heap.size W W') : Rts W' av rl := fun i hi => by
  obtain ⟨gt, e, hr⟩ := h i hi
  exact ⟨gt, e, range_keep hr hb⟩
/-- at a place, before what is too late is dropped -/
def Un (l : List Th) (line : List UInt8) (p : Nat) (ok : Bool) (a : Nat) (g : Nat → Nat) : Nat → Nat
  | 0 => g 0
  | k + 1 => if fr line (th l k) p then min (g (k + 1)) (Qn l line p ok a g k) else g (k + 1)
theorem Qn_Un (l : List Th) (line : List UInt8) (p : Nat) (ok : Bool) (a : Nat) (g : Nat → Nat) (k : Nat) : Qn l line p ok a g k = prn ok a (Un l line p ok a g k) := by
  cases k with
  | zero => rfl
  | succ k => rfl
theorem Un_N0 {l : List Th} {line : List UInt8} {p a : Nat} {ok : Bool} {g : Nat → Nat} (h : ∀ k, g k ≤ N0) (k : Nat) : Un l line p ok a g k ≤ N0 := by
  cases k with
  | zero => exact h 0
  | succ k =>
    show (if fr line (th l k) p = true then min (g (k + 1)) (Qn l line p ok a g k) else g (k + 1)) ≤ N0
    have h1 := h (k + 1)
    split
    · exact Nat.le_trans (Nat.min_le_left _ _) h1
    · exact h1
/-- the row in the pass loop -/
def uv (l : List Th) (line : List UInt8) (p : Nat) (ok : Bool) (a : Nat) (g : Nat → Nat) (i j : Nat) : Nat := if j < i then Qn l line p ok a g j else if j = i then Un l line p ok a g j else g j
/-- is one of the first i alive? -/
def lv (Q : Nat → Nat) : Nat → Bool
  | 0 => false
  | k + 1 => lv Q k || decide (Q k ≠ N0)
theorem lv_false {Q : Nat → Nat} : ∀ {n : Nat}, lv Q n = false → ∀ k, k < n → Q k = N0
  | 0, _, k, hk => by omega
  | n + 1, h, k, hk => by
    unfold lv at h
    rw [Bool.or_eq_false_iff] at h
    by_cases e : k = n
    · subst e; have := h.2; simpa using this
    · exact lv_false h.1 k (by omega)
section
variable {l : List Th} {line : List UInt8} {p a i : Nat} {ok : Bool} {g : Nat → Nat}
theorem uv_at : uv l line p ok a g i i = Un l line p ok a g i := by unfold uv; rw [if_neg (by omega), if_pos rfl]
theorem uv_next : uv l line p ok a g i (i + 1) = g (i + 1) := by unfold uv; rw [if_neg (by omega), if_neg (by omega)]
/-- what a step of the pass loop must leave -/
theorem uv_step (j : Nat) : uv l line p ok a g (i + 1) j = if j = i + 1 then Un l line p ok a g (i + 1) else if j = i then Qn l line p ok a g i else uv l line p ok a g i j := by
  by_cases h1 : j = i + 1
  · rw [if_pos h1, h1, uv_at]
  · rw [if_neg h1]
    unfold uv
    by_cases h2 : j = i
    · rw [if_pos h2, if_pos (show j < i + 1 by omega), h2]
    · rw [if_neg h2, if_neg h2]
      by_cases h3 : j < i
      · rw [if_pos h3, if_pos (show j < i + 1 by omega)]
      · rw [if_neg h3, if_neg (show ¬ j < i + 1 by omega), if_neg h1]
end
theorem wl_load76at {ops : Array Oper} {rest : List Oper} {op : Oper} {a : Act} {w : World} {Q : Exit → Act → World → Prop} {B o k : Nat} {f : Nat → Bool} (x : Operand) (hgd : op.guard = none) (ho : op.op = .load 106 x) (hx : a.eval x = .pointer (some ⟨B, o, none⟩)) (h : w.rangeAt B o (tvl k f)) (hr : wpList Try.prog ops Q rest (a.put op.dst (.agg (tv k f))) w) : wpList Try.prog ops Q (op :: rest) a w :=
  wpList_load_mid hgd 106 x ho B o hx (tvl k f) _ h Try.underlying106 rfl (by rw [info76s, tvl_len]) hr
end Go.Proofs.Ytaakgoojcogbcaa
