/- What the walk of quoinlaw06.ClassKeeps leans on besides. -/
import Derived.Test.YtcjlkcpmljddfaaSame
import Derived.Deep.RegionHeld3
import Derived.Laws.MakeOwn
import Derived.Lib.SlBytesConst
import Derived.Lib.BufferRead
namespace Go.Proofs.Ytcjlkcpmljddfaa
open Go.RowKit

/-- bytes as cells -/
def bv (l : List UInt8) : List Value := l.map fun b => Value.int .u8 (b.toNat : Int)
theorem bv_length (l : List UInt8) : (bv l).length = l.length := by simp [bv]
theorem bv_at (l : List UInt8) (j : Nat) (h : j < l.length) : (bv l)[j]? = some (.int .u8 ((at8 l j).toNat : Int)) := by simp [bv, at8, h]
theorem bv_one (l : List UInt8) : ∀ u ∈ bv l, u.oneCell' = true := by
  intro u hu; obtain ⟨x, _, rfl⟩ := List.mem_map.1 hu; rfl
theorem info5 : (Try.prog.info? 5).map (fun i => (i.zero, i.size, i.bytes)) = some (some (.int .u8 0), 1, 1) := by kernel_rfl
theorem at8_eq {t : List UInt8} {i : Nat} (h : i < t.length) : at8 t i = t[i] := by simp [at8, h]
theorem Tx.srv {w : World} {ao : Option Addr} {n c : Nat} {l : List UInt8} (h : Tx w ao n c l) : Srv w (.slice ao n c) n (bv l) := by
  cases ao with
  | none =>
    obtain ⟨rfl, rfl, rfl⟩ := h.none
    exact .inl ⟨rfl, rfl, rfl⟩
  | some a =>
    refine .inr ⟨a, c, rfl, fun j t hj => ?_⟩
    have hlt := (List.getElem?_eq_some_iff.1 hj).1
    rw [bv_length] at hlt
    rw [bv_at l j hlt] at hj
    rw [← hj]
    exact h.cells a rfl j (by rw [← h.len]; exact hlt)
theorem own_some {w : World} {base e size n : Nat} {v : Value} {xs : List Value} (h : w.ownsRow base e size v n xs) (hn : 1 ≤ n) : ∃ g cap, v = .slice (some ⟨g, 0, none⟩) n cap ∧ n ≤ cap ∧ cap ≤ maxLen := by
  rcases h.2 with ⟨_, h0⟩ | ⟨g, cap, cur, rfl, _, _, h1, h2, _⟩
  · omega
  · exact ⟨g, cap, rfl, h1, h2⟩
theorem conv_tx {W : World} {ao : Option Addr} {n c : Nat} {l : List UInt8} (h : Tx W ao n c l) : (convert 28 9 (.slice ao n c)).run Try.prog W = .ok (.string ⟨l.toArray⟩) W := by
  cases ao with
  | none =>
    obtain ⟨rfl, rfl, rfl⟩ := h.none
    exact Lib.run_convert_nil_bytes W 28 9 5 0 Try.underlying28 Try.underlying5 Try.underlying9
  | some a =>
    have := run_convert_bytes_back W 28 9 5 a c l Try.underlying28 Try.underlying5 Try.underlying9 (fun j hj => by rw [h.cells a rfl j (by rw [← h.len]; exact hj), at8_eq hj])
    rwa [h.len] at this
theorem conv_drew {W : World} {ao : Option Addr} {n c : Nat} {l : List UInt8} (h : Tx W ao n c l) : ∀ q, (convert 28 9 (.slice ao n c)).run Try.prog (W.drewN q) = .ok (.string ⟨l.toArray⟩) (W.drewN q) := fun q => conv_tx (h.keep (below_drewN W q))

set_option maxHeartbeats 1000000 in
theorem same_drew (u v : Value) (E : List Nat) (w : World) (hE : E.length ≤ 4398046511104) (HU : Hid (Ir w u E)) (HV : Hid (Ir w v E)) :
    Calls Try.prog 20 #[u, v] w fun e w' => e = .returned (.bool true) ∧ ∃ q, w' = w.drewN q := by
  obtain ⟨au, cu, hu⟩ := HU.out.top
  obtain ⟨av, cv, hv⟩ := HV.out.top
  subst hu hv
  go_enter Try.func20, Try.ntmps20
  go_wp2_with fail
  go_loopw [5] (fun x wr => ∃ i : Nat, x = .int .i64 i ∧ i ≤ E.length ∧ ∃ q, wr = w.drewN q) (fun x _ => E.length - (intOf x).toNat)
  case atStart => exact ⟨0, rfl, Nat.zero_le _, 0, rfl⟩
  case round =>
    obtain ⟨i, rfl, hi, q, hq⟩ := hrel
    have HQ := Hid.mk' hq
    have hb : Below w.heap.size w wr := by rw [hq]; exact below_drewN _ _
    have hi0 : (0 : Int) ≤ (i : Int) := by omega
    by_cases hlt : i < E.length
    · obtain ⟨g, c, e1, h1⟩ := (HU.out.keep hb).each i _ (List.getElem?_eq_getElem hlt)
      obtain ⟨g2, c2, e2, h2⟩ := (HV.out.keep hb).each i _ (List.getElem?_eq_getElem hlt)
      have x1 : au = some ⟨g, 0, none⟩ := by simp at e1; exact e1.1
      have x2 : av = some ⟨g2, 0, none⟩ := by simp at e2; exact e2.1
      subst x1 x2
      generalize E[i] = k at *
      have hiK : (i : Int) < (E.length : Int) := by omega
      clear e1 e2 hb hq
      go_wp2
      go_quiet (fail)
      go_wp2
      go_roundw
      case rel => exact ⟨i + 1, by go_num, by omega, q + nq, by rw [HQ.out, World.drewN_drewN]⟩
      case measure => first | (simp [intOf]; done) | (simp [intOf]; omega)
    · have hiK : ¬ (i : Int) < (E.length : Int) := by omega
      clear hb hq
      go_wp2
      go_ret
      exact ⟨rfl, q, HQ.out⟩
end Go.Proofs.Ytcjlkcpmljddfaa
