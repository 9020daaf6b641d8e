/- bank.Put. -/
import Derived.Test.YtienamngmalkaaaPu0
import Derived.Test.YtienamngmalkaaaPu1
import Derived.Test.YtienamngmalkaaaPu2
import Derived.Test.YtienamngmalkaaaPu3
namespace Go.Proofs.Ytienamngmalkaaa
open Go.RowKit

theorem put_any (L : List Rg) (P : List Ct) (x : Nat) (how : Int) (s l : Bool) (a : Option Addr) (n c : Nat) (t : List UInt8) (w : World) (hx : x < 256) (HR : Hid (Rdb w L P)) (HT : Hid (Tx w a n c t)) :
    Calls Try.prog 16 #[.agg (bk L), .int .u8 (x : Int), .int .i64 how, .agg #[.bool s, .bool l, .slice a n c]] w fun e w' => ∃ N, e = .returned (.tuple #[.agg (bk N), .int .i64 (putP P x how ⟨s, l, t⟩).2]) ∧ New w w' N (putP P x how ⟨s, l, t⟩).1 := by
  have hlen := HT.out.len
  unfold putP
  cases hk : rix x with
  | none => exact put_name L x how s l a n c w hx hk
  | some k =>
    dsimp only
    cases hh : decide (1 ≤ how ∧ how ≤ 3) with
    | false => rw [if_pos rfl]; exact put_how L x how s l a n c w hx k hk hh
    | true =>
      rw [if_neg (by simp)]
      by_cases h1 : 65536 < n
      · rw [if_pos (by omega)]; exact put_long L x how s l a n c w hx k hk hh h1
      · rw [if_neg (by omega)]
        have hn : n ≤ 65536 := by omega
        cases l with
        | true =>
          cases he : enl t with
          | false => rw [if_pos (by simp)]; exact put_line L x how s true a n c w hx k t HT hk hh hn rfl he
          | true =>
            rw [if_neg (by simp)]
            cases hG : (grt x && (P.getD k zc).s) with
            | false => exact put_true_p L P x how s a n c k t w hx HR HT hk hh hn he hG
            | true => exact put_true_g L P x how s a n c k t w hx HR HT hk hh hn he hG
        | false =>
          rw [if_neg (by simp)]
          cases hG : (grt x && (P.getD k zc).s) with
          | false => exact put_false_p L P x how s a n c k t w hx HR HT hk hh hn hG
          | true => exact put_false_g L P x how s a n c k t w hx HR HT hk hh hn hG
/-- a new bank can be read -/
theorem New.rdb {w W : World} {N : List Rg} {P : List Ct} (h : New w W N P) (hP : ∀ (k : Nat) (c : Ct), P[k]? = some c → c.t.length ≤ 140737488351232) : Rdb W N P := by
  refine ⟨h.len, by rw [← h.fl.1, h.len], fun k r c h1 h2 => ?_⟩
  obtain ⟨e1, e2, e3⟩ := h.fl.2 k r c h1 h2
  have ho := h.own.own k _ (rows_at h1 h2)
  have hb := hP k c h2
  obtain ⟨a, cc, hv, hT⟩ := own_txl (l := c.t) ho (by show r.n ≤ _; omega)
  obtain ⟨e4, e5⟩ : r.a = a ∧ r.c = cc := by
    have : Value.slice r.a r.n r.c = .slice a r.n cc := hv
    simpa using this
  subst e4 e5
  exact ⟨e1, e2, hT, by omega⟩
end Go.Proofs.Ytienamngmalkaaa
