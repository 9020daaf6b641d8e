/- HuntUnders, walked. -/
import Derived.Test.YtaakgoojcogbcaaZRun2
import Derived.Test.YtaakgoojcogbcaaXh
namespace Go.Proofs.Ytaakgoojcogbcaa
open Go.RowKit
/-- what Under answers, as a list and a fault -/
def UnR (t : List UInt8) (k : Int) (L : List UInt8) (f : Int) : Prop :=
  (¬ (0 ≤ k ∧ k ≤ t.length) ∧ L = [] ∧ f = 2) ∨ ((0 ≤ k ∧ k ≤ t.length) ∧ WdN t k.toNat ∧ L = [] ∧ f = 120) ∨
    ((0 ≤ k ∧ k ≤ t.length) ∧ ∃ s x, WdS t k.toNat s x ∧ ((256 < (upat (wlist t s x)).length ∧ L = [] ∧ f = 1) ∨ ((upat (wlist t s x)).length ≤ 256 ∧ L = upat (wlist t s x) ∧ f = 0)))
theorem UnR.one {t : List UInt8} {k : Int} {L L' : List UInt8} {f f' : Int} (h : UnR t k L f) (h' : UnR t k L' f') : L = L' ∧ f = f' := by
  rcases h with ⟨a, rfl, rfl⟩ | ⟨a, b, rfl, rfl⟩ | ⟨a, s, x, b, hc⟩ <;> rcases h' with ⟨a', rfl, rfl⟩ | ⟨a', b', rfl, rfl⟩ | ⟨a', s', x', b', hc'⟩
  · exact ⟨rfl, rfl⟩
  · exact absurd a' a
  · exact absurd a' a
  · exact absurd a a'
  · exact ⟨rfl, rfl⟩
  · exact (b'.not b).elim
  · exact absurd a a'
  · exact (b.not b').elim
  · obtain ⟨rfl, rfl⟩ := b.one b'
    rcases hc with ⟨c, rfl, rfl⟩ | ⟨c, rfl, rfl⟩ <;> rcases hc' with ⟨c', rfl, rfl⟩ | ⟨c', rfl, rfl⟩
    · exact ⟨rfl, rfl⟩
    · omega
    · omega
    · exact ⟨rfl, rfl⟩
theorem UnP.form {t : List UInt8} {k : Int} {w w' : World} {e : Ending} (h : UnP t k w e w') : Below w.heap.size w w' ∧ ∃ av nv cv L f, e = .returned (.tuple #[.slice av nv cv, .int .i64 f]) ∧ Tx w' av nv cv L ∧ UnR t k L f := by
  obtain ⟨hb, ⟨a, rfl⟩ | ⟨a, b, rfl⟩ | ⟨a, s, x, b, ⟨c, rfl⟩ | ⟨c, v, rfl, ho⟩⟩⟩ := h
  · exact ⟨hb, none, 0, 0, [], 2, rfl, tx_nil w', .inl ⟨a, rfl, rfl⟩⟩
  · exact ⟨hb, none, 0, 0, [], 120, rfl, tx_nil w', .inr (.inl ⟨a, b, rfl, rfl⟩)⟩
  · exact ⟨hb, none, 0, 0, [], 1, rfl, tx_nil w', .inr (.inr ⟨a, s, x, b, .inl ⟨c, rfl, rfl⟩⟩)⟩
  · obtain ⟨av, cv, rfl, ht⟩ := own_tx rfl (by omega) ho
    exact ⟨hb, av, _, cv, _, 0, rfl, ht, .inr (.inr ⟨a, s, x, b, .inr ⟨c, rfl, rfl⟩⟩)⟩
set_option maxRecDepth 8000 in
set_option maxHeartbeats 8000000 in
theorem huntUnders_walk (w : World) (ao : Option Addr) (n c : Nat) (t : List UInt8) (k : Int) (hn : n ≤ 1048576) (HT : Hid (Tx w ao n c t)) :
    Calls Try.prog 6 #[.slice ao n c, .int .i64 k] w fun e w' => e = .returned (.bool true) ∧ Below w.heap.size w w' := by
  go_enter Try.func6, Try.ntmps6
  go_wp2_with fail
  refine (awake_any _).mono ?_
  rintro e w1 ⟨rfl, hb1⟩
  have U1 := Hid.mk' hb1
  clear hb1
  go_wp2_with fail
  refine (runder_any ao n c k t w1 (by omega) (HT.out.keep U1.out)).mono ?_
  intro e w2 hP
  obtain ⟨hb2, a1, n1, c1, L, f, rfl, ht1, hr1⟩ := hP.form
  have U2 := Hid.mk' (bT U1.out hb2)
  have T1 := Hid.mk' ht1
  have R1 := Hid.mk' hr1
  clear hP hb2 ht1 hr1 U1
  go_wp2_with fail
  refine (under_any ao n c k t w2 (by omega) (HT.out.keep U2.out)).mono ?_
  intro e w3 hP
  obtain ⟨hb3, a2, n2, c2, L2, f2, rfl, ht2, hr2⟩ := hP.form
  obtain ⟨rfl, rfl⟩ := R1.out.one hr2
  have U3 := Hid.mk' (bT U2.out hb3)
  have cv1 := conv_tx (T1.out.keep hb3)
  have cv2 := conv_tx ht2
  clear hP hb3 ht2 hr2 U2 T1 R1
  go_wp2
  go_ret
  exact ⟨by simp, U3.out⟩
end Go.Proofs.Ytaakgoojcogbcaa
