/- A text quoted (pure): what is compiled of it, and where it matches. -/
import Derived.Test.YtaakgoojcogbcaaZAll
import Derived.Shelf.Small.Strs
import Derived.Test.YtaakgoojcogbcaaRows
namespace Go.Proofs.Ytaakgoojcogbcaa
open Go.RowKit
/-- does a byte want quoting? -/
def spc (b : UInt8) : Bool := b == 92 || b == 46 || b == 42 || b == 91 || b == 93 || b == 94 || b == 36
def q1 (b : UInt8) : List UInt8 := if spc b then [92, b] else [b]
def qt (s : List UInt8) : List UInt8 := s.flatMap q1
theorem qt_cons (b : UInt8) (s : List UInt8) : qt (b :: s) = q1 b ++ qt s := by simp [qt]
theorem qt_snoc (s : List UInt8) (b : UInt8) : qt (s ++ [b]) = qt s ++ q1 b := by simp [qt]
theorem q1_len (b : UInt8) : 1 ≤ (q1 b).length ∧ (q1 b).length ≤ 2 := by unfold q1; split <;> simp
theorem qt_len : ∀ s : List UInt8, s.length ≤ (qt s).length ∧ (qt s).length ≤ 2 * s.length
  | [] => by simp [qt]
  | b :: s => by
    have h1 := q1_len b
    have h2 := qt_len s
    rw [qt_cons, List.length_append, List.length_cons]
    omega
/-- the thing of a byte -/
def sg (b : UInt8) : Th := one fun x => x == b.toNat
theorem bn_drop {q : List UInt8} {i : Nat} {x : UInt8} {r : List UInt8} (h : q.drop i = x :: r) : i < q.length ∧ bn q i = x.toNat ∧ q.drop (i + 1) = r := by
  have hi : i < q.length := by
    rcases Nat.lt_or_ge i q.length with h1 | h1
    · exact h1
    · rw [List.drop_eq_nil_of_le h1] at h; cases h
  rw [List.drop_eq_getElem_cons hi] at h
  injection h with h1 h2
  exact ⟨hi, by unfold bn; rw [at8_eq hi, h1], h2⟩
theorem spc_no {b : UInt8} (h : spc b = false) : b.toNat ≠ 92 ∧ b.toNat ≠ 46 ∧ b.toNat ≠ 42 ∧ b.toNat ≠ 91 ∧ b.toNat ≠ 93 ∧ b.toNat ≠ 94 ∧ b.toNat ≠ 36 := by
  unfold spc at h
  simp only [Bool.or_eq_false_iff, beq_eq_false_iff_ne, ne_eq] at h
  obtain ⟨⟨⟨⟨⟨⟨h1, h2⟩, h3⟩, h4⟩, h5⟩, h6⟩, h7⟩ := h
  refine ⟨fun e => h1 ?_, fun e => h2 ?_, fun e => h3 ?_, fun e => h4 ?_, fun e => h5 ?_, fun e => h6 ?_, fun e => h7 ?_⟩ <;> exact UInt8.toNat_inj.1 e
theorem spc_yes {b : UInt8} (h : spc b = true) : b.toNat ≠ 60 ∧ b.toNat ≠ 62 := by
  unfold spc at h
  simp only [Bool.or_eq_true, beq_iff_eq] at h
  rcases h with (((((h | h) | h) | h) | h) | h) | h <;> subst h <;> decide
theorem rdA_quote (q : List UInt8) : ∀ (t : List UInt8) (i m : Nat) (l : List Th), q.drop i = qt t → (qt t).length ≤ m → rdA q m i l = (-1, l ++ t.map sg)
  | [], i, m, l, h, hm => by
    have : ¬ i < q.length := by
      intro hi
      rw [List.drop_eq_getElem_cons hi] at h
      cases h
    rw [rdA_stop this]; simp
  | b :: t, i, m, l, h, hm => by
    rw [qt_cons] at h hm
    rw [List.length_append] at hm
    have hl := q1_len b
    obtain ⟨m, rfl⟩ : ∃ k, m = k + 1 := ⟨m - 1, by omega⟩
    cases hs : spc b with
    | true =>
      have hq : q1 b = [92, b] := by unfold q1; rw [hs]; rfl
      rw [hq] at h hm
      obtain ⟨hi, hb, hd⟩ := bn_drop h
      obtain ⟨hi2, hb2, hd2⟩ := bn_drop hd
      have hy := spc_yes hs
      have e : rd1 q i l = (-1, i + 2, l ++ [sg b]) := by
        unfold rd1
        rw [hb, hb2]
        simp only [show (92 : UInt8).toNat = 92 from rfl]
        rw [if_neg (by omega), if_neg (by omega), if_neg (by omega), if_pos trivial, if_neg (by omega), if_neg hy.1, if_neg hy.2]
        rfl
      rw [rdA_go hi, e]
      dsimp only
      rw [if_pos rfl, rdA_quote q t (i + 2) m (l ++ [sg b]) hd2 (by simp at hm; omega)]
      simp
    | false =>
      have hq : q1 b = [b] := by unfold q1; rw [hs]; rfl
      rw [hq] at h hm
      obtain ⟨hi, hb, hd⟩ := bn_drop h
      have hy := spc_no hs
      have e : rd1 q i l = (-1, i + 1, l ++ [sg b]) := by
        unfold rd1
        rw [hb]
        rw [if_neg (by omega), if_neg (by omega), if_neg (by omega), if_neg (by omega), if_neg (by omega), if_neg (by omega)]
        rfl
      rw [rdA_go hi, e]
      dsimp only
      rw [if_pos rfl, rdA_quote q t (i + 1) m (l ++ [sg b]) hd (by simp at hm; omega)]
      simp
theorem cmp_quote (s : List UInt8) : cmp (qt s) = (-1, s.map sg) := by
  unfold cmp
  rw [rdA_quote (qt s) s 0 _ [] rfl (Nat.le_refl _)]
  rfl
/-! Where it matches. -/
theorem th_sg {s : List UInt8} {k : Nat} (h : k < s.length) : th (s.map sg) k = sg (at8 s k) := by simp [th, at8, h]
theorem Pb_ones {s : List UInt8} {line : List UInt8} {p : Nat} {v : Nat → Bool} : ∀ {k : Nat}, k ≤ s.length → Pb (s.map sg) line p v k = v k
  | 0, _ => rfl
  | k + 1, h => by
    unfold Pb
    rw [th_sg (by omega)]
    have : fr line (sg (at8 s k)) p = false := rfl
    rw [this]; simp
theorem V_ones {s : List UInt8} {line : List UInt8} {a : Nat} : ∀ (p k : Nat), k ≤ s.length → (V (s.map sg) line a p k = true ↔ (p = a + k ∧ ∀ j, j < k → bn line (a + j) = bn s j))
  | 0, k, hk => by
    unfold V
    by_cases ha : a = 0
    · rw [if_pos ha, Pb_ones hk]
      constructor
      · intro h; simp at h; subst h; exact ⟨by omega, fun j hj => by omega⟩
      · rintro ⟨h, _⟩; simp; omega
    · rw [if_neg ha]; constructor
      · intro h; cases h
      · rintro ⟨h, _⟩; omega
  | p + 1, k, hk => by
    unfold V
    by_cases ha : a = p + 1
    · rw [if_pos ha, Pb_ones hk]
      constructor
      · intro h; simp at h; subst h; exact ⟨by omega, fun j hj => by omega⟩
      · rintro ⟨h, _⟩; simp; omega
    · rw [if_neg ha, Pb_ones hk]
      have ih := V_ones (s := s) (line := line) (a := a) p
      unfold Rb
      have hm : ∀ k, tkm (th (s.map sg) k) (bn line p) = false ∨ s.length ≤ k := by
        intro k
        rcases Nat.lt_or_ge k s.length with h | h
        · rw [th_sg h]; exact .inl rfl
        · exact .inr h
      have h2 : (decide (k < (s.map sg).length) && (tkm (th (s.map sg) k) (bn line p) && V (s.map sg) line a p k)) = false := by
        rcases hm k with h | h
        · rw [h]; simp
        · rw [decide_eq_false (by simp; omega)]; rfl
      rw [h2, Bool.or_false]
      cases k with
      | zero => simp; omega
      | succ k =>
        simp only [Nat.add_sub_cancel]
        rw [th_sg (by omega)]
        have ht : tk1 (sg (at8 s k)) (bn line p) = decide (bn line p = bn s k) := by
          unfold tk1 sg one bn
          simp [BEq.beq]
        rw [ht]
        rw [Bool.and_eq_true, Bool.and_eq_true, ih k (by omega)]
        simp only [decide_eq_true_eq]
        constructor
        · rintro ⟨_, h3, h4, h5⟩
          refine ⟨by omega, fun j hj => ?_⟩
          by_cases hjk : j = k
          · subst hjk; rw [← h4]; exact h3
          · exact h5 j (by omega)
        · rintro ⟨h3, h4⟩
          refine ⟨by omega, ?_, by omega, fun j hj => h4 j (by omega)⟩
          have := h4 k (by omega)
          rw [show p = a + k by omega]; exact this
/-- the text stands at a -/
def Sta (s line : List UInt8) (a : Nat) : Prop := ∀ j, j < s.length → bn line (a + j) = bn s j
theorem M_ones {s line : List UInt8} {a b : Nat} : M (s.map sg) line a b = true ↔ (b = a + s.length ∧ Sta s line a) := by
  unfold M Sta
  rw [V_ones b _ (by simp)]
  simp
theorem fs_hit {s line : List UInt8} {f i : Nat} (hf : f ≤ i) (hi : i + s.length ≤ line.length) (hs : Sta s line i) (hno : ∀ k, f ≤ k → k < i → ¬ Sta s line k) : FS (s.map sg) line f i (i + s.length) true := by
  refine .inl ⟨rfl, hf, by omega, hi, M_ones.2 ⟨rfl, hs⟩, fun k h1 h2 b' _ => ?_, fun b' _ h => by have := (M_ones.1 h).1; omega⟩
  cases hm : M (s.map sg) line k b' with
  | false => rfl
  | true => exact absurd (M_ones.1 hm).2 (hno k h1 h2)
theorem fs_miss {s line : List UInt8} {f i : Nat} (hi : line.length < i + s.length) (hno : ∀ k, f ≤ k → k < i → ¬ Sta s line k) : FS (s.map sg) line f 0 0 false := by
  refine .inr ⟨rfl, rfl, rfl, fun k h1 b' hb => ?_⟩
  cases hm : M (s.map sg) line k b' with
  | false => rfl
  | true =>
    obtain ⟨h2, h3⟩ := M_ones.1 hm
    exact absurd h3 (hno k h1 (by omega))
end Go.Proofs.Ytaakgoojcogbcaa
/- The library's contract at this program: strings.IndexByte. -/
namespace Go.Proofs.Ytaakgoojcogbcaa
open Go.Shelf
def lays137_ren : Go.Shelf.Ren := ⟨fun | 137 => 75 | 217 => 91 | 266 => 100 | n => n, fun | 9 => 9 | 5 => 5 | 3 => 3 | n => n, fun | n => n⟩
theorem lays137 : Go.Proofs.Lays.n137 Try.prog lays137_ren := {
  mixed := by kernel_rfl
  f137 := Try.func75.trans (congrArg some (by kernel_rfl))
  f217 := Try.func91.trans (congrArg some (by kernel_rfl))
  f266 := Try.func100.trans (congrArg some (by kernel_rfl))
  t3 := Try.underlying3
  a3 := Try.isAgg3
  z3 := Try.sizeOf3
  v3 := Try.zeroValue3
  t5 := Try.underlying5
  a5 := Try.isAgg5
  z5 := Try.sizeOf5
  v5 := Try.zeroValue5
  t9 := Try.underlying9
  a9 := Try.isAgg9
  z9 := Try.sizeOf9
  v9 := Try.zeroValue9 }
theorem strings_IndexByte (s : ByteArray) (c : Int) (w : World) :
    Calls Try.prog 75 #[.string s, .int .u8 c] w fun e w' => e = .returned (.int .i64 (Lib.indexByte s.data.toList c.toNat.toUInt8)) ∧ w' = w := Any.strings_IndexByte lays137 s c w
end Go.Proofs.Ytaakgoojcogbcaa
/- Quote. -/
namespace Go.Proofs.Ytaakgoojcogbcaa
open Go.RowKit
theorem spc_index (b : UInt8) : spc b = decide (0 ≤ Lib.indexByte [92, 46, 42, 91, 93, 94, 36] b) := by
  have h : ∀ n : Fin 256, spc (UInt8.ofNat n.val) = decide (0 ≤ Lib.indexByte [92, 46, 42, 91, 93, 94, 36] (UInt8.ofNat n.val)) := by decide +kernel
  have := h ⟨b.toNat, b.toNat_lt⟩
  simpa using this
/-- what Quote answers -/
def QuoP (s : List UInt8) (W : World) (e : Ending) (W' : World) : Prop := ∃ v, e = .returned v ∧ W'.ownsRow W.heap.size 5 1 v (qt s).length (bv (qt s)) ∧ Below W.heap.size W W'
theorem bv_append (a b : List UInt8) : bv (a ++ b) = bv a ++ bv b := by simp [bv]
theorem take_at8 {s : List UInt8} {k : Nat} (h : k < s.length) : s.take (k + 1) = s.take k ++ [at8 s k] := by
  rw [List.take_succ_eq_append_getElem h, at8_eq h]
set_option maxRecDepth 8000 in
set_option maxHeartbeats 4000000 in
theorem quote_any (W : World) (ao : Option Addr) (n c : Nat) (s : List UInt8) (hn : n ≤ 70368744177664) (HT : Hid (Tx W ao n c s)) :
    Calls Try.prog 45 #[.slice ao n c] W fun e W' => QuoP s W e W' := by
  obtain ⟨i0, hi, hz0, hz1, hz2⟩ : ∃ i, Try.prog.info? 5 = some i ∧ i.zero = some (.int .u8 0) ∧ i.size = 1 ∧ i.bytes = 1 := by
    have := info5
    cases h : Try.prog.info? 5 with
    | none => rw [h] at this; cases this
    | some i => rw [h] at this; simp at this; exact ⟨i, rfl, this.1, this.2.1, this.2.2⟩
  have hlen := HT.out.len
  go_enter Try.func45, Try.ntmps45
  go_wp2
  go_loopg [3, 5, 8] n (fun m x3 x5 x8 wx => ∃ k : Nat, x8 = .int .i64 (k : Int) ∧ k + m = n ∧ Hid (wx.ownsRow W.heap.size 5 1 x3 (qt (s.take k)).length (bv (qt (s.take k)))) ∧ Hid (Below W.heap.size W wx))
  case atStart => exact ⟨0, rfl, by omega, ⟨rfl, .inl ⟨rfl, rfl⟩⟩, Below.refl _ _⟩
  case round =>
    obtain ⟨k, rfl, hk, HO, HB⟩ := hrel
    obtain ⟨a3, c3, e3⟩ := own_shape HO.out
    subst e3
    cases gk with
    | zero =>
      have hkn : ¬ ((k : Int) < (n : Int)) := by omega
      have HK : Hid (s.take k = s) := by unfold Hid; rw [List.take_of_length_le (by omega)]
      go_wp2
      go_ret
      exact ⟨_, rfl, by have := HO.out; rw [HK.out] at this ⊢; exact this, HB.out⟩
    | succ m =>
      have hkn : (k : Int) < (n : Int) := by omega
      obtain ⟨g, o, e1, hc⟩ := HT.out.at (by omega)
      subst e1
      have cx := keepC HB.out (hc k (by omega))
      have hq := qt_len (s.take k)
      have hql : (qt (s.take k)).length ≤ 2 * k := by rw [List.length_take] at hq; omega
      have HQ : Hid (qt (s.take (k + 1)) = qt (s.take k) ++ q1 (at8 s k)) := by unfold Hid; rw [take_at8 (by omega), qt_snoc]
      have CI := Hid.mk' (strings_IndexByte ⟨#[92, 46, 42, 91, 93, 94, 36]⟩ ((at8 s k).toNat : Int) wr)
      have hcv : ((at8 s k).toNat : Int).toNat.toUInt8 = at8 s k := by simp
      rw [hcv] at CI
      have hsp := spc_index (at8 s k)
      obtain ⟨b, hb⟩ : ∃ b, b = at8 s k := ⟨_, rfl⟩
      rw [← hb] at cx HQ CI hsp
      clear hb hc hcv
      obtain ⟨Q, hQ⟩ : ∃ Q, Q = qt (s.take k) := ⟨_, rfl⟩
      rw [← hQ] at HQ hql HO
      rw [← hQ]
      clear hQ
      cases hs : spc b with
      | true =>
        have hge : 0 ≤ Lib.indexByte [92, 46, 42, 91, 93, 94, 36] b := by rw [hs] at hsp; simpa using hsp.symm
        have HQ2 : Hid (qt (s.take (k + 1)) = (Q ++ [92]) ++ [b]) := by unfold Hid; rw [HQ.out]; unfold q1; rw [hs]; simp
        clear hsp hs HQ
        generalize Lib.indexByte [92, 46, 42, 91, 93, 94, 36] b = X at *
        go_wp2_with (first | (go_at_call 75; refine CI.out.mono ?_; rintro e w' ⟨rfl, hw⟩; subst hw) | (at_builtin; refine append_srv rfl (.tmp 15) (.tmp 16) 22 rfl W.heap.size 5 i0 (.int .u8 0) 1 1 Try.underlying22 hi hz0 hz1 hz2 rfl (by decide) _ _ _ rfl (HO.out.alloc _) (.slice (some ⟨w'.heap.size, 0, none⟩) 1 1) 1 [.int .u8 92] rfl (.inr ⟨⟨w'.heap.size, 0, none⟩, 1, rfl, fun k u hk => lit_cells w' _ 5 k u hk⟩) rfl (by intro u hu; rw [List.mem_singleton.1 hu]; rfl) (by unfold maxLen; omega) (by omega) (bAlloc HB.out _).size ?_))
        intro v5 w5 hown hgrow _
        have L5 : Hid (Below W.heap.size W w5) := (bAlloc HB.out _).grown hgrow (bAlloc HB.out _).size (fun k hk => (HO.out.lt k hk).1)
        have O5 : Hid (w5.ownsRow W.heap.size 5 1 v5 (Q.length + 1) (bv (Q ++ [92]))) := by unfold Hid; rw [bv_append]; exact hown
        clear hown hgrow HO HB cx CI
        obtain ⟨a5, c5, e5⟩ := own_shape O5.out
        subst e5
        go_wp2_with (first | (at_builtin; refine append_srv rfl (.tmp 18) (.tmp 20) 22 rfl W.heap.size 5 i0 (.int .u8 0) 1 1 Try.underlying22 hi hz0 hz1 hz2 rfl (by decide) _ _ _ rfl (O5.out.alloc _) (.slice (some ⟨w5.heap.size, 0, none⟩) 1 1) 1 [.int .u8 (b.toNat : Int)] rfl (.inr ⟨⟨w5.heap.size, 0, none⟩, 1, rfl, fun k u hk => lit_cells w5 _ 5 k u hk⟩) rfl (by intro u hu; rw [List.mem_singleton.1 hu]; rfl) (by unfold maxLen; omega) (by omega) (bAlloc L5.out _).size ?_))
        intro v6 w6 hown hgrow _
        have L6 : Hid (Below W.heap.size W w6) := (bAlloc L5.out _).grown hgrow (bAlloc L5.out _).size (fun k hk => (O5.out.lt k hk).1)
        have O6 : Hid (w6.ownsRow W.heap.size 5 1 v6 ((Q ++ [92]) ++ [b]).length (bv ((Q ++ [92]) ++ [b]))) := by unfold Hid; rw [bv_append, List.length_append, List.length_append]; exact hown
        clear hown hgrow O5 L5
        go_wp2
        go_roundg m
        case measure => omega
        case rel => exact ⟨k + 1, by go_num, by omega, by unfold Hid; rw [HQ2.out]; exact O6.out, L6.out⟩
      | false =>
        have hge : ¬ (0 ≤ Lib.indexByte [92, 46, 42, 91, 93, 94, 36] b) := by rw [hs] at hsp; simpa using hsp.symm
        have HQ2 : Hid (qt (s.take (k + 1)) = Q ++ [b]) := by unfold Hid; rw [HQ.out]; unfold q1; rw [hs]; simp
        clear hsp hs HQ
        generalize Lib.indexByte [92, 46, 42, 91, 93, 94, 36] b = X at *
        go_wp2_with (first | (go_at_call 75; refine CI.out.mono ?_; rintro e w' ⟨rfl, hw⟩; subst hw) | (at_builtin; refine append_srv rfl (.tmp 18) (.tmp 20) 22 rfl W.heap.size 5 i0 (.int .u8 0) 1 1 Try.underlying22 hi hz0 hz1 hz2 rfl (by decide) _ _ _ rfl (HO.out.alloc _) (.slice (some ⟨w'.heap.size, 0, none⟩) 1 1) 1 [.int .u8 (b.toNat : Int)] rfl (.inr ⟨⟨w'.heap.size, 0, none⟩, 1, rfl, fun k u hk => lit_cells w' _ 5 k u hk⟩) rfl (by intro u hu; rw [List.mem_singleton.1 hu]; rfl) (by unfold maxLen; omega) (by omega) (bAlloc HB.out _).size ?_))
        intro v6 w6 hown hgrow _
        have L6 : Hid (Below W.heap.size W w6) := (bAlloc HB.out _).grown hgrow (bAlloc HB.out _).size (fun k hk => (HO.out.lt k hk).1)
        have O6 : Hid (w6.ownsRow W.heap.size 5 1 v6 (Q ++ [b]).length (bv (Q ++ [b]))) := by unfold Hid; rw [bv_append, List.length_append]; exact hown
        clear hown hgrow HO HB
        go_wp2
        go_roundg m
        case measure => omega
        case rel => exact ⟨k + 1, by go_num, by omega, by unfold Hid; rw [HQ2.out]; exact O6.out, L6.out⟩
end Go.Proofs.Ytaakgoojcogbcaa
