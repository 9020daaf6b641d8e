/- How the arguments of the laws of pattern and hunt lie in memory. -/
import Derived.Test.YtaakgoojcogbcaaZAlv
import Derived.ProofKit
import Derived.OpenShut
import Derived.SizedLaws
import Derived.Lib.SmallJoins
namespace Go.Proofs.Ytaakgoojcogbcaa
open Go.ChangeShapes Go.WideShapes Go.ChangeAt Go.RowKit Go.Joins

theorem own : ownKnob Try.prog.godebug = none := by kernel_rfl
theorem laidOut : laidOutB Try.prog = true := by kernel_rfl
theorem cells5 : Try.prog.cellsOf 5 = 1 := by kernel_rfl
theorem bytes5 : Try.prog.bytesOf 5 = 1 := by kernel_rfl

/-- numbers that are bytes -/
def by8 (zs : List Int) : List UInt8 := zs.map fun z => UInt8.ofNat z.toNat
theorem by8_length (zs : List Int) : (by8 zs).length = zs.length := by simp [by8]
theorem tx_ints {W : World} {a : Addr} {len cap : Nat} {zs : List Int} (hl : len ≤ cap) (hz : zs.length = cap) (hb : cap ≤ 140737488355328) (hc : ∀ i, i < zs.length → W.cell? (a.add i) = some (.int .u8 (zs.getD i 0))) (hw : ∀ n ∈ zs, (Lit.int .u8 n).wf = true) :
    Tx W (some a) len cap (by8 (zs.take len)) := by
  refine ⟨by rw [by8_length, List.length_take]; omega, hl, by omega, (fun h => by cases h), fun a' ha j hj => ?_⟩
  obtain rfl : a = a' := by simpa using ha
  have hjz : j < zs.length := by omega
  have hb := bounds_u8 (hw zs[j] (List.getElem_mem hjz))
  rw [hc j hjz]
  have e : (UInt8.ofNat zs[j].toNat).toNat = zs[j].toNat := by
    rw [UInt8.toNat_ofNat']; omega
  have e2 : at8 (by8 (zs.take len)) j = UInt8.ofNat zs[j].toNat := by simp [at8, by8, List.getD, hj, hjz]
  rw [e2, e]
  simp [List.getD, hjz]
  omega

section
variable {H : Type} {enc : TypeId × Value → H} {W : World}
/-- what a []byte is to the walk -/
theorem open_tx {fuel : Nat} {v : Value} {x : DataW H × List MemPlace} (hf : DataW.trod enc Try.prog W 0 (fun _ => true) true fuel 22 [v] = some x) (hsz : ∀ n ∈ x.1.weights Try.prog 22, n ≤ reachBytes) :
    ∃ ao n c l, v = .slice ao n c ∧ Tx W ao n c l ∧ n ≤ 140737488351232 := by
  rcases open_ints Try.underlying22 Try.underlying5 cells5 hf with ⟨hcs, _⟩ | ⟨a, len, cap, zs, hcs, _, hl, hm, hz, hx, hcell, hwz⟩
  · simp only [List.cons.injEq, and_true] at hcs
    subst hcs
    exact ⟨none, 0, 0, [], rfl, tx_nil W, by omega⟩
  · simp only [List.cons.injEq, and_true] at hcs
    subst hcs
    simp only [if_true] at hz
    subst hx
    have h2 := hsz ((lits (H := H) .u8 (zs.take len)).length + (lits (H := H) .u8 (zs.drop len)).length) (by simp [DataW.weights, Try.underlying22, bytes5])
    simp only [lits, List.length_map, List.length_take, List.length_drop, reachBytes] at h2
    exact ⟨some a, len, cap, _, rfl, tx_ints (by omega) (by omega) (by omega) hcell hwz, by omega⟩
theorem open0 {v : Value} {d : DataW H} {p : List MemPlace} (h : DataW.Trod enc Try.prog W 0 (fun _ => true) true 22 v d p) (hv : ∃ a len cap, v = .slice a len cap)
    (hsz : ∀ n ∈ d.weights Try.prog 22, n ≤ reachBytes) : ∃ ao n c l, v = .slice ao n c ∧ Tx W ao n c l ∧ n ≤ 140737488351232 := by
  obtain ⟨a, len, cap, rfl⟩ := hv
  obtain ⟨fuel, hf⟩ := h
  exact open_tx hf hsz
theorem cells3 : Try.prog.cellsOf 3 = 1 := by kernel_rfl
theorem cells4 : Try.prog.cellsOf 4 = 1 := by kernel_rfl
theorem cells22 : Try.prog.cellsOf 22 = 1 := by kernel_rfl
theorem cells40 : Try.prog.cellsOf 40 = 5 := by kernel_rfl
set_option maxRecDepth 100000 in
/-- what a Search is to the walk -/
theorem open_se0 {r : Reach} {b0 : Nat} {v : Value} {d : DataW H} {p : List MemPlace} (hval : Value.okWide Try.prog W r b0 40 v) (h : DataW.Trod enc Try.prog W 0 (fun _ => true) true 40 v d p) :
    ∃ (v0 v1 : Value) (k C : Int) (b : Bool) (n : Nat) (y0 y1 y2 y3 y4 : DataW H × List MemPlace), v = .agg #[v0, v1, .int .i64 k, .int .i64 C, .bool b] ∧ d = .agg [y0.1, y1.1, y2.1, y3.1, y4.1] ∧ DataW.trod enc Try.prog W 0 (fun _ => true) true n 22 [v0] = some y0 ∧ DataW.trod enc Try.prog W 0 (fun _ => true) true n 22 [v1] = some y1 := by
  obtain ⟨cs, rfl, hcs⟩ := okWide_struct Try.underlying40 hval
  rw [cells40] at hcs
  obtain ⟨cs⟩ := cs
  obtain ⟨fuel, hf⟩ := h
  obtain ⟨xs, n, -, hx, hl, hxl, hfl⟩ := DataW.trod_struct Try.underlying40 hf
  match xs, hxl, cs, hcs with
  | [y0, y1, y2, y3, y4], _, [v0, v1, v2, v3, v4], _ =>
    have g0 : DataW.trod enc Try.prog W 0 (fun _ => true) true n 22 [v0] = some y0 := by simpa [Value.cells, cells22] using hfl 0 _ rfl
    have g1 : DataW.trod enc Try.prog W 0 (fun _ => true) true n 22 [v1] = some y1 := by simpa [Value.cells, cells22] using hfl 1 _ rfl
    have g2 : DataW.trod enc Try.prog W 0 (fun _ => true) true n 3 [v2] = some y2 := by simpa [Value.cells, cells3] using hfl 2 _ rfl
    have g3 : DataW.trod enc Try.prog W 0 (fun _ => true) true n 3 [v3] = some y3 := by simpa [Value.cells, cells3] using hfl 3 _ rfl
    have g4 : DataW.trod enc Try.prog W 0 (fun _ => true) true n 4 [v4] = some y4 := by simpa [Value.cells, cells4] using hfl 4 _ rfl
    simp only [Prod.mk.injEq] at hx
    obtain ⟨rfl, -⟩ := hx
    obtain ⟨k, e2, -, -⟩ := DataW.trod_int Try.underlying3 g2
    obtain ⟨C, e3, -, -⟩ := DataW.trod_int Try.underlying3 g3
    obtain ⟨b, e4, -⟩ := DataW.trod_bool Try.underlying4 g4
    simp only [List.cons.injEq, and_true] at e2 e3 e4
    subst e2 e3 e4
    exact ⟨v0, v1, k, C, b, n, y0, y1, y2, y3, y4, rfl, rfl, g0, g1⟩
set_option maxRecDepth 100000 in
theorem open_se {r : Reach} {b0 : Nat} {v : Value} {d : DataW H} {p : List MemPlace} (hval : Value.okWide Try.prog W r b0 40 v) (h : DataW.Trod enc Try.prog W 0 (fun _ => true) true 40 v d p) (hsz : ∀ n ∈ d.weights Try.prog 40, n ≤ reachBytes) :
    ∃ ao n c, ∃ t : List UInt8, ∃ ap np cp, ∃ q : List UInt8, ∃ (k C : Int) (b : Bool), v = .agg #[.slice ao n c, .slice ap np cp, .int .i64 k, .int .i64 C, .bool b] ∧ Tx W ao n c t ∧ Tx W ap np cp q := by
  obtain ⟨v0, v1, k, C, b, m, y0, y1, y2, y3, y4, rfl, rfl, g0, g1⟩ := open_se0 hval h
  obtain ⟨ao, n, c, t, e0, hT, _⟩ := open_tx g0 (fun k hk => hsz k (by
    unfold DataW.weights
    rw [Try.underlying40]
    exact DataW.weights_mem_each (j := 0) (t := 22) (d := y0.1) rfl rfl k hk))
  obtain ⟨ap, np, cp, q, e1, hQ, _⟩ := open_tx g1 (fun k hk => hsz k (by
    unfold DataW.weights
    rw [Try.underlying40]
    exact DataW.weights_mem_each (j := 1) (t := 22) (d := y1.1) rfl rfl k hk))
  subst e0 e1
  exact ⟨ao, n, c, t, ap, np, cp, q, k, C, b, rfl, hT, hQ⟩
end
end Go.Proofs.Ytaakgoojcogbcaa
