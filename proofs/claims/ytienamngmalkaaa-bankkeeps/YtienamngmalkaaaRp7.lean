import Derived.Test.YtienamngmalkaaaGtw
import Derived.Test.YtienamngmalkaaaRp1
import Derived.Test.YtienamngmalkaaaRp2
import Derived.Test.YtienamngmalkaaaRp3
import Derived.Test.YtienamngmalkaaaRp4
import Derived.Test.YtienamngmalkaaaRp5
import Derived.Test.YtienamngmalkaaaRp6
/- quoinref15.Put, whatever it is given. -/
namespace Go.Proofs.Ytienamngmalkaaa
open Go
theorem putD_small {P : List Ct} {x k : Nat} {c : Ct} (h : grt x = false) : putD P x k c = ⟨true, c.l, c.t⟩ := by unfold putD; rw [h]; rfl
theorem putQ_small {P : List Ct} {k : Nat} {how : Int} {d : Ct} (h : ¬ 65536 < d.t.length) : putQ P k how d = (putB P k how d, 0) := by unfold putQ putB; rw [if_neg h]
theorem rput_any (L : List Rg) (P : List Ct) (x : Nat) (how : Int) (s l : Bool) (a : Option Addr) (n c : Nat) (t : List UInt8) (w : World) (hx : x < 256) (HR : Hid (Rdb w L P)) (HT : Hid (Tx w a n c t)) :
    Calls Try.prog 15 #[.agg (bk L), .int .u8 (x : Int), .int .i64 how, .agg #[.bool s, .bool l, .slice a n c]] w fun e w' => ∃ N, e = .returned (.tuple #[.agg (bk N), .int .i64 (putP P x how ⟨s, l, t⟩).2]) ∧ NewR w w' N (putP P x how ⟨s, l, t⟩).1 := by
  have hlen := HT.out.len
  unfold putP
  cases hk : rix x with
  | none => exact rput_name L x how s l a n c w hx hk
  | some k =>
    dsimp only
    cases hh : decide (1 ≤ how ∧ how ≤ 3) with
    | false => rw [if_pos rfl]; exact rput_how L x how s l a n c w hx k hk hh
    | true =>
      rw [if_neg (by simp)]
      by_cases h1 : 65536 < n
      · rw [if_pos (by omega)]; exact rput_long L x how s l a n c w hx k hk hh h1
      · rw [if_neg (by omega)]
        have hn : n ≤ 65536 := by omega
        cases hle : (l && !enl t) with
        | true =>
          rw [if_pos rfl]
          simp at hle
          exact rput_line L x how s l a n c w hx k t HT hk hh hn hle.1 hle.2
        | false =>
          rw [if_neg (by simp)]
          show Calls Try.prog 15 #[.agg (bk L), .int .u8 (x : Int), .int .i64 how, .agg #[.bool s, .bool l, .slice a n c]] w fun e w' => ∃ N, e = .returned (.tuple #[.agg (bk N), .int .i64 (putQ P k how (putD P x k ⟨s, l, t⟩)).2]) ∧ NewR w w' N (putQ P k how (putD P x k ⟨s, l, t⟩)).1
          rcases rix_kinds hk with ⟨rfl, rfl⟩ | ⟨rfl, rfl⟩ | ⟨rfl, rfl⟩ | ⟨j, hj, rfl, rfl⟩ | ⟨j, hj, rfl, rfl⟩ | ⟨j, hj, rfl, rfl⟩
          · rw [putD_small (by unfold grt; simp), putQ_small (by show ¬ 65536 < t.length; omega)]; exact rput_z L P how s l a n c t w HR HT hh hn hle
          · rw [putD_small (by unfold grt; simp), putQ_small (by show ¬ 65536 < t.length; omega)]; exact rput_q L P how s l a n c t w HR HT hh hn hle
          · rw [putD_small (by unfold grt; simp), putQ_small (by show ¬ 65536 < t.length; omega)]; exact rput_s L P how s l a n c t w HR HT hh hn hle
          · rw [putD_small (by unfold grt; simp; omega), putQ_small (by show ¬ 65536 < t.length; omega)]; exact rput_n L P j hj how s l a n c t w HR HT hh hn hle
          · rw [putD_small (by unfold grt; simp; omega), putQ_small (by show ¬ 65536 < t.length; omega)]; exact rput_l L P j hj how s l a n c t w HR HT hh hn hle
          · exact rput_g L P j hj how s l a n c t w HR HT hh hn hle _ _ (Hid.mk' rfl)
end Go.Proofs.Ytienamngmalkaaa
