/- slices.Insert of bytes. -/
import Derived.Test.YthklmdnamkjgmaaOwn
namespace Go.Proofs.Ythklmdnamkjgmaa
open Go.RowKit

set_option maxRecDepth 8000
theorem wl_copy {w : World} {ops : Array Oper} {rest : List Oper} {o : Oper} {a : Act} {Q : Exit → Act → World → Prop} (hgd : o.guard = none) (d s : Operand)
    (ho : o.op = .call { callee := .builtin .copy, args := #[d, s], argTypes := #[22, 22] }) (v u : Value) (hd : a.eval d = v) (hs : a.eval s = u) {v' : Value} {w' : World}
    (hr : ∀ ty, (Builtin.copy_ #[22, 22] ty #[v, u]).run Try.prog w = .ok v' w') (h : wpList Try.prog ops Q rest (a.put o.dst v') w') : wpList Try.prog ops Q (o :: rest) a w := by
  refine wpList_plain hgd fun K hK => ?_
  have hr' := hr o.type
  unfold Oper.wp execOp
  simp only [ho, resolve, invoke, builtin, Sem.run_bind, Sem.run_pure, Result.andThen_ok, List.map_toArray, List.map_cons, List.map_nil, hd, hs, hr']
  exact hK _ _ h
theorem st_copy {w : World} {cc : Bool} {o : Oper} {a : Act} {K : Act → World → Prop} {Q : Exit → Act → World → Prop} {E : Prop} (hcc : cc = true) (d s : Operand)
    (ho : o.op = .call { callee := .builtin .copy, args := #[d, s], argTypes := #[22, 22] }) (v u : Value) (hd : a.eval d = v) (hs : a.eval s = u) {v' : Value} {w' : World}
    (hr : ∀ ty, (Builtin.copy_ #[22, 22] ty #[v, u]).run Try.prog w = .ok v' w') (h : K (a.put o.dst v') w') : if cc = true then Oper.wp Try.prog o a w K Q else E := by
  rw [if_pos hcc]
  have hr' := hr o.type
  unfold Oper.wp execOp
  simp only [ho, resolve, invoke, builtin, Sem.run_bind, Sem.run_pure, Result.andThen_ok, List.map_toArray, List.map_cons, List.map_nil, hd, hs, hr']
  exact h
theorem wl_app {w : World} {ops : Array Oper} {rest : List Oper} {o : Oper} {a : Act} {Q : Exit → Act → World → Prop} (hgd : o.guard = none) (t : Nat) (d s : Operand)
    (ho : o.op = .call { callee := .builtin .append, args := #[d, s], argTypes := #[22, t] }) (v u : Value) (hd : a.eval d = v) (hs : a.eval s = u) {v' : Value} {w' : World}
    (hr : ∀ ty, (Builtin.append_ #[22, t] ty #[v, u]).run Try.prog w = .ok v' w') (h : wpList Try.prog ops Q rest (a.put o.dst v') w') : wpList Try.prog ops Q (o :: rest) a w :=
  Lib.wpList_append_run w hgd d s 22 t ho v u hd hs v' w' (hr _) h
/-- copy, at any type that the answer is said to have -/
theorem cp_ty {W : World} {g lo dl dc m k : Nat} {X : List Value} {a : Addr} {u : Value} {news : List Value} (h : Blk W g 5 X.toArray) (hp : Pt g lo dl a) (hs : Srv W u m news) (hl : news.length = m) (h1 : ∀ v ∈ news.take k, v.oneCell' = true) (hk : k = min m dl) (hX : lo + dl ≤ X.length) :
    ∃ W', (∀ ty, (Builtin.copy_ #[22, 22] ty #[.slice (some a) dl dc, u]).run Try.prog W = .ok (goInt k) W') ∧ Blk W' g 5 (pat X lo (news.take k)).toArray ∧ W.grownBy W' (some g) := by
  obtain ⟨W', hr, h2, h3⟩ := cp_own (dc := dc) 0 h hp hs hl h1 hk hX
  exact ⟨W', fun ty => hr, h2, h3⟩
theorem az_ty {W : World} {g i n c k : Nat} {X : List Value} {z : Int} (h : Blk W g 5 X.toArray) (hX : X.length = c) (hi : i ≤ c) (hn : n = i + k) (hr : c < n) (hz : z = (k : Int)) (hb : n ≤ 150000000000000) :
    ∃ W' G, (∀ ty, (Builtin.append_ #[22, 3] ty #[.slice (some ⟨g, 0, none⟩) i c, .int .i64 z]).run Try.prog W = .ok (.slice (some ⟨W.heap.size, 0, none⟩) n G) W') ∧ Blk W' W.heap.size 5 (X.take i ++ List.replicate k (Value.int .u8 0) ++ List.replicate (G - n) (Value.int .u8 0)).toArray ∧ W.grownBy W' none ∧ n ≤ G ∧ G ≤ maxLen := by
  obtain ⟨W', G, hr, h2⟩ := az_own 0 h hX hi hn hr hz hb
  exact ⟨W', G, fun ty => hr, h2⟩
/-- what a call that edits a row gives -/
def RepP (base : Nat) (v : Value) (k : Nat) (l : List UInt8) (w : World) (e : Ending) (w' : World) : Prop :=
  ∃ v', e = .returned v' ∧ w'.ownsRow base 5 1 v' k (bv l) ∧ w.grownBy w' v.ownBlock ∧ (v'.ownBlock = v.ownBlock ∨ ∃ q, v'.ownBlock = some q ∧ w.heap.size ≤ q)
theorem bv_append (a b : List UInt8) : bv (a ++ b) = bv a ++ bv b := by simp [bv]
theorem bv_take (l : List UInt8) (i : Nat) : bv (l.take i) = (bv l).take i := by simp [bv, List.map_take]
theorem bv_drop (l : List UInt8) (i : Nat) : bv (l.drop i) = (bv l).drop i := by simp [bv, List.map_drop]
/-- a row known whole is owned -/
theorem own_blk {W : World} {base g n c : Nat} {X xs : List Value} (h : Blk W g 5 X.toArray) (hb : base ≤ g) (hX : X.length = c) (hn : n ≤ c) (hc : c ≤ maxLen) (hx : X.take n = xs) : W.ownsRow base 5 1 (.slice (some ⟨g, 0, none⟩) n c) n xs :=
  ⟨by rw [← hx, List.length_take]; omega, .inr ⟨g, c, X.toArray, rfl, hb, h, hn, hc, by simp [hX], by simpa using hx⟩⟩
/-- an owned row, known whole -/
theorem blk_own {W : World} {base n : Nat} {v : Value} {xs : List Value} (h : W.ownsRow base 5 1 v n xs) (hn : 1 ≤ n) : ∃ (g c : Nat) (X : List Value), v = .slice (some ⟨g, 0, none⟩) n c ∧ base ≤ g ∧ Blk W g 5 X.toArray ∧ X.length = c ∧ n ≤ c ∧ c ≤ maxLen ∧ X.take n = xs := by
  rcases h.2 with ⟨_, h0⟩ | ⟨g, c, cur, rfl, h1, h2, h3, h4, h5, h6⟩
  · omega
  · exact ⟨g, c, cur.toList, rfl, h1, h2, by simpa using h5, h3, h4, by simpa using h6⟩
theorem Tx.ne {w : World} {ao : Option Addr} {n c : Nat} {l : List UInt8} (h : Tx w ao n c l) (hn : 0 < n) : ∃ a v, ao = some a ∧ w.cell? a = some v := by
  obtain ⟨g, o, rfl, h1⟩ := h.at hn
  exact ⟨_, _, rfl, by simpa using h1 0 hn⟩
theorem grown_drew (w : World) : w.grownBy w.drew none := ⟨rfl, rfl, rfl, Nat.le_refl _, fun _ _ _ => rfl⟩
theorem grown_some {w w' : World} (h : w.grownBy w' none) (r : Option Nat) : w.grownBy w' r := ⟨h.os, h.tape, h.output, h.size, fun k hk _ => h.block k hk (by simp)⟩
/-- what is left behind a copy of the tail and one of the new bytes -/
theorem ins_list {X V : List Value} {i j n m : Nat} (hij : i ≤ j) (hjn : j ≤ n) (hm : V.length = m) (hX : n - (j - i) + m ≤ X.length) (hn : n ≤ X.length) {S : List Value} (hS : S = (X.take n).drop j) :
    (pat (pat X (i + m) S) i V).take (n - (j - i) + m) = (X.take n).take i ++ V ++ (X.take n).drop j := by
  have hSl : S.length = n - j := by rw [hS, List.length_drop, List.length_take]; omega
  have e1 : (pat X (i + m) S).take i = (X.take n).take i := by
    unfold pat
    rw [List.append_assoc, List.take_append_of_le_length (by rw [List.length_take]; omega), List.take_take, List.take_take, show min i (i + m) = i by omega, show min i n = i by omega]
  have e2 : (pat X (i + m) S).drop (i + m) = S ++ X.drop (i + m + S.length) := by
    unfold pat
    rw [List.append_assoc, List.drop_append_of_le_length (by rw [List.length_take]; omega), List.drop_take, Nat.sub_self, List.take_zero, List.nil_append]
  have e : pat (pat X (i + m) S) i V = ((X.take n).take i ++ V ++ S) ++ X.drop (i + m + S.length) := by
    show (pat X (i + m) S).take i ++ V ++ (pat X (i + m) S).drop (i + V.length) = _
    rw [e1, hm, e2]
    simp only [List.append_assoc]
  rw [e, hS, List.take_left' (by simp only [List.length_append, List.length_take, List.length_drop]; omega)]
/-- the same, the new bytes first, in a new row -/
theorem new_list {A V S : List Value} {i m k G : Nat} (hA : A.length = i) (hm : V.length = m) (hk : S.length + m = k) :
    (pat (pat (A ++ List.replicate k (Value.int .u8 0) ++ List.replicate G (Value.int .u8 0)) i V) (i + m) S).take (i + k) = A ++ V ++ S := by
  have e0 : A ++ List.replicate k (Value.int .u8 0) ++ List.replicate G (Value.int .u8 0) = A ++ List.replicate (k + G) (Value.int .u8 0) := by
    rw [List.append_assoc, List.replicate_append_replicate]
  have e1 : pat (A ++ List.replicate k (Value.int .u8 0) ++ List.replicate G (Value.int .u8 0)) i V = A ++ V ++ List.replicate (k - m + G) (Value.int .u8 0) := by
    rw [e0]
    unfold pat
    rw [List.take_left' hA, ← List.drop_drop, List.drop_left' hA, hm, List.drop_replicate]
    congr 2; omega
  rw [e1]
  unfold pat
  rw [List.take_left' (i := i + m) (by simp [hA, hm]), List.take_left' (by simp [hA, hm]; omega)]
end Go.Proofs.Ythklmdnamkjgmaa
