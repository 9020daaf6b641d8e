/- How the arguments of the laws of step lie in memory. -/
import Derived.Test.YtbkhbnmihnomaaaIs
import Derived.ProofKit
import Derived.OpenShut
import Derived.SizedLaws
import Derived.Lib.SmallJoins
namespace Go.Proofs.Ytbkhbnmihnomaaa
open Go.ChangeShapes Go.WideShapes Go.ChangeAt Go.RowKit Go.Joins

theorem own : ownKnob Try.prog.godebug = none := by kernel_rfl
theorem laidOut : laidOutB Try.prog = true := by kernel_rfl
theorem cells5 : Try.prog.cellsOf 5 = 1 := by kernel_rfl
theorem bytes5 : Try.prog.bytesOf 5 = 1 := by kernel_rfl

/-- numbers that are bytes -/
def by8 (zs : List Int) : List UInt8 := zs.map fun z => UInt8.ofNat z.toNat
theorem by8_length (zs : List Int) : (by8 zs).length = zs.length := by simp [by8]
theorem tx_ints {W : World} {a : Addr} {len cap : Nat} {zs : List Int} (hl : len ≤ cap) (hz : zs.length = cap) (hb : cap ≤ 140737488355328) (hc : ∀ i, i < zs.length → W.cell? (a.add i) = some (.int .u8 (zs.getD i 0))) (hw : ∀ n ∈ zs, (Lit.int .u8 n).wf = true) :
    Tx W (some a) len cap (by8 (zs.take len)) := by
  refine ⟨by rw [by8_length, List.length_take]; omega, hl, by omega, (fun h => by cases h), fun a' ha j hj => ?_⟩
  obtain rfl : a = a' := by simpa using ha
  have hjz : j < zs.length := by omega
  have hb := bounds_u8 (hw zs[j] (List.getElem_mem hjz))
  rw [hc j hjz]
  have e : (UInt8.ofNat zs[j].toNat).toNat = zs[j].toNat := by
    rw [UInt8.toNat_ofNat']; omega
  have e2 : at8 (by8 (zs.take len)) j = UInt8.ofNat zs[j].toNat := by simp [at8, by8, List.getD, hj, hjz]
  rw [e2, e]
  simp [List.getD, hjz]
  omega

/-- what an argument of type []byte is to the walk -/
theorem open0 {H : Type} {enc : TypeId × Value → H} {W : World} {v : Value} {d : DataW H} {p : List MemPlace} (h : DataW.Trod enc Try.prog W 0 (fun _ => true) true 22 v d p) (hv : ∃ a len cap, v = .slice a len cap)
    (hsz : ∀ n ∈ d.weights Try.prog 22, n ≤ reachBytes) : ∃ ao n c l, v = .slice ao n c ∧ Tx W ao n c l := by
  obtain ⟨a, len, cap, rfl⟩ := hv
  obtain ⟨fuel, hf⟩ := h
  rcases open_ints Try.underlying22 Try.underlying5 cells5 hf with ⟨hcs, _⟩ | ⟨x, l, c, zs, hcs, _, hl, hm, hz, hx, hcell, hwz⟩
  · simp [Value.cells] at hcs
    obtain ⟨rfl, rfl, rfl⟩ := hcs
    exact ⟨none, 0, 0, [], rfl, tx_nil W⟩
  · simp [Value.cells] at hcs
    obtain ⟨rfl, rfl, rfl⟩ := hcs
    simp only [if_true] at hz
    simp only [Prod.mk.injEq] at hx
    obtain ⟨rfl, -⟩ := hx
    have h2 := hsz ((lits (H := H) .u8 (zs.take len)).length + (lits (H := H) .u8 (zs.drop len)).length) (by simp [DataW.weights, Try.underlying22, bytes5])
    simp only [lits, List.length_map, List.length_take, List.length_drop, reachBytes] at h2
    exact ⟨some x, len, cap, _, rfl, tx_ints (by omega) (by omega) (by omega) hcell hwz⟩

theorem cells27 : Try.prog.cellsOf 27 = 4 := by kernel_rfl
/-- what an argument of type Ask is to the walk -/
theorem openA {H : Type} {enc : TypeId × Value → H} {W : World} {r : Reach} {b0 : Nat} {v : Value} {d : DataW H} {p : List MemPlace} (hval : Value.okWide Try.prog W r b0 27 v) (h : DataW.Trod enc Try.prog W 0 (fun _ => true) true 27 v d p) :
    ∃ (i want cnt : Int) (s : ByteArray), v = .agg #[.int .i64 i, .int .i64 want, .int .i64 cnt, .string s] ∧ -9223372036854775808 ≤ i ∧ i ≤ 9223372036854775807 ∧ want ≤ 9223372036854775807 ∧ -9223372036854775808 ≤ cnt ∧ cnt ≤ 9223372036854775807 := by
  obtain ⟨c0, c1, c2, c3, y0, y1, y2, y3, m, rfl, -, -, hy0, hy1, hy2, hy3⟩ := open_agg4 Try.underlying27 (by kernel_rfl) cells27 hval h
  obtain ⟨i, e0, -, wi⟩ := DataW.trod_int Try.underlying3 hy0
  obtain ⟨want, e1, -, ww⟩ := DataW.trod_int Try.underlying3 hy1
  obtain ⟨cnt, e2, -, wc⟩ := DataW.trod_int Try.underlying3 hy2
  obtain ⟨s, e3, -, -⟩ := DataW.trod_string Try.underlying9 hy3
  simp only [List.cons.injEq, and_true] at e0 e1 e2 e3
  subst e0 e1 e2 e3
  exact ⟨i, want, cnt, s, rfl, (bounds_i64 wi).1, (bounds_i64 wi).2, (bounds_i64 ww).2, (bounds_i64 wc).1, (bounds_i64 wc).2⟩
end Go.Proofs.Ytbkhbnmihnomaaa
