/- What a Search is to the walk, with the text's size. -/
import Derived.Test.YtaakgoojcogbcaaZOpen
namespace Go.Proofs.Ytaakgoojcogbcaa
open Go.ChangeShapes Go.WideShapes Go.ChangeAt Go.RowKit Go.Joins
set_option maxRecDepth 100000 in
theorem open_seB {H : Type} {enc : TypeId × Value → H} {W : World} {r : Reach} {b0 : Nat} {v : Value} {d : DataW H} {p : List MemPlace} (hval : Value.okWide Try.prog W r b0 40 v) (h : DataW.Trod enc Try.prog W 0 (fun _ => true) true 40 v d p) (hsz : ∀ n ∈ d.weights Try.prog 40, n ≤ reachBytes) :
    ∃ ao n c, ∃ t : List UInt8, ∃ ap np cp, ∃ q : List UInt8, ∃ (k C : Int) (b : Bool), v = .agg #[.slice ao n c, .slice ap np cp, .int .i64 k, .int .i64 C, .bool b] ∧ Tx W ao n c t ∧ Tx W ap np cp q ∧ n ≤ 140737488351232 := by
  obtain ⟨v0, v1, k, C, b, m, y0, y1, y2, y3, y4, rfl, rfl, g0, g1⟩ := open_se0 hval h
  obtain ⟨ao, n, c, t, e0, hT, hn⟩ := open_tx g0 (fun k hk => hsz k (by
    unfold DataW.weights
    rw [Try.underlying40]
    exact DataW.weights_mem_each (j := 0) (t := 22) (d := y0.1) rfl rfl k hk))
  obtain ⟨ap, np, cp, q, e1, hQ, _⟩ := open_tx g1 (fun k hk => hsz k (by
    unfold DataW.weights
    rw [Try.underlying40]
    exact DataW.weights_mem_each (j := 1) (t := 22) (d := y1.1) rfl rfl k hk))
  subst e0 e1
  exact ⟨ao, n, c, t, ap, np, cp, q, k, C, b, rfl, hT, hQ, hn⟩
end Go.Proofs.Ytaakgoojcogbcaa
