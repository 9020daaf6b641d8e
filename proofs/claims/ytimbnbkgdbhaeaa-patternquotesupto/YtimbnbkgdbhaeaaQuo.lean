/- Quote. -/
import Derived.Test.YtimbnbkgdbhaeaaQp
import Derived.Test.YtimbnbkgdbhaeaaShelf
namespace Go.Proofs.Ytimbnbkgdbhaeaa
open Go.RowKit
theorem spc_index (b : UInt8) : spc b = decide (0 ≤ Lib.indexByte [92, 46, 42, 91, 93, 94, 36] b) := by
  have h : ∀ n : Fin 256, spc (UInt8.ofNat n.val) = decide (0 ≤ Lib.indexByte [92, 46, 42, 91, 93, 94, 36] (UInt8.ofNat n.val)) := by decide +kernel
  have := h ⟨b.toNat, b.toNat_lt⟩
  simpa using this
/-- what Quote answers -/
def QuoP (s : List UInt8) (W : World) (e : Ending) (W' : World) : Prop := ∃ v, e = .returned v ∧ W'.ownsRow W.heap.size 5 1 v (qt s).length (bv (qt s)) ∧ Below W.heap.size W W'
theorem bv_append (a b : List UInt8) : bv (a ++ b) = bv a ++ bv b := by simp [bv]
theorem take_at8 {s : List UInt8} {k : Nat} (h : k < s.length) : s.take (k + 1) = s.take k ++ [at8 s k] := by
  rw [List.take_succ_eq_append_getElem h, at8_eq h]
set_option maxRecDepth 8000 in
set_option maxHeartbeats 4000000 in
theorem quote_any (W : World) (ao : Option Addr) (n c : Nat) (s : List UInt8) (hn : n ≤ 70368744177664) (HT : Hid (Tx W ao n c s)) :
    Calls Try.prog 17 #[.slice ao n c] W fun e W' => QuoP s W e W' := by
  obtain ⟨i0, hi, hz0, hz1, hz2⟩ : ∃ i, Try.prog.info? 5 = some i ∧ i.zero = some (.int .u8 0) ∧ i.size = 1 ∧ i.bytes = 1 := by
    have := info5
    cases h : Try.prog.info? 5 with
    | none => rw [h] at this; cases this
    | some i => rw [h] at this; simp at this; exact ⟨i, rfl, this.1, this.2.1, this.2.2⟩
  have hlen := HT.out.len
  go_enter Try.func17, Try.ntmps17
  go_wp2
  go_loopg [3, 5, 8] n (fun m x3 x5 x8 wx => ∃ k : Nat, x8 = .int .i64 (k : Int) ∧ k + m = n ∧ Hid (wx.ownsRow W.heap.size 5 1 x3 (qt (s.take k)).length (bv (qt (s.take k)))) ∧ Hid (Below W.heap.size W wx))
  case atStart => exact ⟨0, rfl, by omega, ⟨rfl, .inl ⟨rfl, rfl⟩⟩, Below.refl _ _⟩
  case round =>
    obtain ⟨k, rfl, hk, HO, HB⟩ := hrel
    obtain ⟨a3, c3, e3⟩ := own_shape HO.out
    subst e3
    cases gk with
    | zero =>
      have hkn : ¬ ((k : Int) < (n : Int)) := by omega
      have HK : Hid (s.take k = s) := by unfold Hid; rw [List.take_of_length_le (by omega)]
      go_wp2
      go_ret
      exact ⟨_, rfl, by have := HO.out; rw [HK.out] at this ⊢; exact this, HB.out⟩
    | succ m =>
      have hkn : (k : Int) < (n : Int) := by omega
      obtain ⟨g, o, e1, hc⟩ := HT.out.at (by omega)
      subst e1
      have cx := keepC HB.out (hc k (by omega))
      have hq := qt_len (s.take k)
      have hql : (qt (s.take k)).length ≤ 2 * k := by rw [List.length_take] at hq; omega
      have HQ : Hid (qt (s.take (k + 1)) = qt (s.take k) ++ q1 (at8 s k)) := by unfold Hid; rw [take_at8 (by omega), qt_snoc]
      have CI := Hid.mk' (strings_IndexByte ⟨#[92, 46, 42, 91, 93, 94, 36]⟩ ((at8 s k).toNat : Int) wr)
      have hcv : ((at8 s k).toNat : Int).toNat.toUInt8 = at8 s k := by simp
      rw [hcv] at CI
      have hsp := spc_index (at8 s k)
      obtain ⟨b, hb⟩ : ∃ b, b = at8 s k := ⟨_, rfl⟩
      rw [← hb] at cx HQ CI hsp
      clear hb hc hcv
      obtain ⟨Q, hQ⟩ : ∃ Q, Q = qt (s.take k) := ⟨_, rfl⟩
      rw [← hQ] at HQ hql HO
      rw [← hQ]
      clear hQ
      cases hs : spc b with
      | true =>
        have hge : 0 ≤ Lib.indexByte [92, 46, 42, 91, 93, 94, 36] b := by rw [hs] at hsp; simpa using hsp.symm
        have HQ2 : Hid (qt (s.take (k + 1)) = (Q ++ [92]) ++ [b]) := by unfold Hid; rw [HQ.out]; unfold q1; rw [hs]; simp
        clear hsp hs HQ
        generalize Lib.indexByte [92, 46, 42, 91, 93, 94, 36] b = X at *
        go_wp2_with (first | (go_at_call 23; refine CI.out.mono ?_; rintro e w' ⟨rfl, hw⟩; subst hw) | (at_builtin; refine append_srv rfl (.tmp 15) (.tmp 16) 24 rfl W.heap.size 5 i0 (.int .u8 0) 1 1 Try.underlying24 hi hz0 hz1 hz2 rfl (by decide) _ _ _ rfl (HO.out.alloc _) (.slice (some ⟨w'.heap.size, 0, none⟩) 1 1) 1 [.int .u8 92] rfl (.inr ⟨⟨w'.heap.size, 0, none⟩, 1, rfl, fun k u hk => lit_cells w' _ 5 k u hk⟩) rfl (by intro u hu; rw [List.mem_singleton.1 hu]; rfl) (by unfold maxLen; omega) (by omega) (bAlloc HB.out _).size ?_))
        intro v5 w5 hown hgrow _
        have L5 : Hid (Below W.heap.size W w5) := (bAlloc HB.out _).grown hgrow (bAlloc HB.out _).size (fun k hk => (HO.out.lt k hk).1)
        have O5 : Hid (w5.ownsRow W.heap.size 5 1 v5 (Q.length + 1) (bv (Q ++ [92]))) := by unfold Hid; rw [bv_append]; exact hown
        clear hown hgrow HO HB cx CI
        obtain ⟨a5, c5, e5⟩ := own_shape O5.out
        subst e5
        go_wp2_with (first | (at_builtin; refine append_srv rfl (.tmp 18) (.tmp 20) 24 rfl W.heap.size 5 i0 (.int .u8 0) 1 1 Try.underlying24 hi hz0 hz1 hz2 rfl (by decide) _ _ _ rfl (O5.out.alloc _) (.slice (some ⟨w5.heap.size, 0, none⟩) 1 1) 1 [.int .u8 (b.toNat : Int)] rfl (.inr ⟨⟨w5.heap.size, 0, none⟩, 1, rfl, fun k u hk => lit_cells w5 _ 5 k u hk⟩) rfl (by intro u hu; rw [List.mem_singleton.1 hu]; rfl) (by unfold maxLen; omega) (by omega) (bAlloc L5.out _).size ?_))
        intro v6 w6 hown hgrow _
        have L6 : Hid (Below W.heap.size W w6) := (bAlloc L5.out _).grown hgrow (bAlloc L5.out _).size (fun k hk => (O5.out.lt k hk).1)
        have O6 : Hid (w6.ownsRow W.heap.size 5 1 v6 ((Q ++ [92]) ++ [b]).length (bv ((Q ++ [92]) ++ [b]))) := by unfold Hid; rw [bv_append, List.length_append, List.length_append]; exact hown
        clear hown hgrow O5 L5
        go_wp2
        go_roundg m
        case measure => omega
        case rel => exact ⟨k + 1, by go_num, by omega, by unfold Hid; rw [HQ2.out]; exact O6.out, L6.out⟩
      | false =>
        have hge : ¬ (0 ≤ Lib.indexByte [92, 46, 42, 91, 93, 94, 36] b) := by rw [hs] at hsp; simpa using hsp.symm
        have HQ2 : Hid (qt (s.take (k + 1)) = Q ++ [b]) := by unfold Hid; rw [HQ.out]; unfold q1; rw [hs]; simp
        clear hsp hs HQ
        generalize Lib.indexByte [92, 46, 42, 91, 93, 94, 36] b = X at *
        go_wp2_with (first | (go_at_call 23; refine CI.out.mono ?_; rintro e w' ⟨rfl, hw⟩; subst hw) | (at_builtin; refine append_srv rfl (.tmp 18) (.tmp 20) 24 rfl W.heap.size 5 i0 (.int .u8 0) 1 1 Try.underlying24 hi hz0 hz1 hz2 rfl (by decide) _ _ _ rfl (HO.out.alloc _) (.slice (some ⟨w'.heap.size, 0, none⟩) 1 1) 1 [.int .u8 (b.toNat : Int)] rfl (.inr ⟨⟨w'.heap.size, 0, none⟩, 1, rfl, fun k u hk => lit_cells w' _ 5 k u hk⟩) rfl (by intro u hu; rw [List.mem_singleton.1 hu]; rfl) (by unfold maxLen; omega) (by omega) (bAlloc HB.out _).size ?_))
        intro v6 w6 hown hgrow _
        have L6 : Hid (Below W.heap.size W w6) := (bAlloc HB.out _).grown hgrow (bAlloc HB.out _).size (fun k hk => (HO.out.lt k hk).1)
        have O6 : Hid (w6.ownsRow W.heap.size 5 1 v6 (Q ++ [b]).length (bv (Q ++ [b]))) := by unfold Hid; rw [bv_append, List.length_append]; exact hown
        clear hown hgrow HO HB
        go_wp2
        go_roundg m
        case measure => omega
        case rel => exact ⟨k + 1, by go_num, by omega, by unfold Hid; rw [HQ2.out]; exact O6.out, L6.out⟩
end Go.Proofs.Ytimbnbkgdbhaeaa
