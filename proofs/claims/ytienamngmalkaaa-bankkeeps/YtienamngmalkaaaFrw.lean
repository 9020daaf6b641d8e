/- How a list of calls lies in memory. -/
import Derived.Test.YtienamngmalkaaaPus
namespace Go.Proofs.Ytienamngmalkaaa
/-- a list of calls in memory -/
def Frow (W : World) (ao : Option Addr) (n : Nat) : Prop :=
  ∀ r, r < n → ∃ (g o k : Nat) (how : Int) (rr : Rg) (cc : Ct), ao = some ⟨g, o, none⟩ ∧ k < 256 ∧ Rd W rr cc ∧ W.cell? ⟨g, o + r * 5, none⟩ = some (.int .u8 (k : Int)) ∧ W.cell? ⟨g, o + r * 5 + 1, none⟩ = some (.int .i64 how) ∧ W.cell? ⟨g, o + r * 5 + 2, none⟩ = some (.bool rr.s) ∧ W.cell? ⟨g, o + r * 5 + 3, none⟩ = some (.bool rr.l) ∧ W.cell? ⟨g, o + r * 5 + 4, none⟩ = some (.slice rr.a rr.n rr.c)
end Go.Proofs.Ytienamngmalkaaa
