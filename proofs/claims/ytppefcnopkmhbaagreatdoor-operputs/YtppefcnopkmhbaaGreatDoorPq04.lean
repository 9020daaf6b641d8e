/- Ins, Inw, Ing, Rep, Rep2, Rep3 -/
import Derived.Test.YtppefcnopkmhbaaGreatDoorPq03
namespace Go.Proofs.YtppefcnopkmhbaaGreatDoor
open Go.RowKit

set_option maxRecDepth 8000
theorem wl_copy {w : World} {ops : Array Oper} {rest : List Oper} {o : Oper} {a : Act} {Q : Exit → Act → World → Prop} (hgd : o.guard = none) (d s : Operand)
    (ho : o.op = .call { callee := .builtin .copy, args := #[d, s], argTypes := #[22, 22] }) (v u : Value) (hd : a.eval d = v) (hs : a.eval s = u) {v' : Value} {w' : World}
    (hr : ∀ ty, (Builtin.copy_ #[22, 22] ty #[v, u]).run Tryz.prog w = .ok v' w') (h : wpList Tryz.prog ops Q rest (a.put o.dst v') w') : wpList Tryz.prog ops Q (o :: rest) a w := by
  refine wpList_plain hgd fun K hK => ?_
  have hr' := hr o.type
  unfold Oper.wp execOp
  simp only [ho, resolve, invoke, builtin, Sem.run_bind, Sem.run_pure, Result.andThen_ok, List.map_toArray, List.map_cons, List.map_nil, hd, hs, hr']
  exact hK _ _ h
theorem st_copy {w : World} {cc : Bool} {o : Oper} {a : Act} {K : Act → World → Prop} {Q : Exit → Act → World → Prop} {E : Prop} (hcc : cc = true) (d s : Operand)
    (ho : o.op = .call { callee := .builtin .copy, args := #[d, s], argTypes := #[22, 22] }) (v u : Value) (hd : a.eval d = v) (hs : a.eval s = u) {v' : Value} {w' : World}
    (hr : ∀ ty, (Builtin.copy_ #[22, 22] ty #[v, u]).run Tryz.prog w = .ok v' w') (h : K (a.put o.dst v') w') : if cc = true then Oper.wp Tryz.prog o a w K Q else E := by
  rw [if_pos hcc]
  have hr' := hr o.type
  unfold Oper.wp execOp
  simp only [ho, resolve, invoke, builtin, Sem.run_bind, Sem.run_pure, Result.andThen_ok, List.map_toArray, List.map_cons, List.map_nil, hd, hs, hr']
  exact h
theorem wl_app {w : World} {ops : Array Oper} {rest : List Oper} {o : Oper} {a : Act} {Q : Exit → Act → World → Prop} (hgd : o.guard = none) (t : Nat) (d s : Operand)
    (ho : o.op = .call { callee := .builtin .append, args := #[d, s], argTypes := #[22, t] }) (v u : Value) (hd : a.eval d = v) (hs : a.eval s = u) {v' : Value} {w' : World}
    (hr : ∀ ty, (Builtin.append_ #[22, t] ty #[v, u]).run Tryz.prog w = .ok v' w') (h : wpList Tryz.prog ops Q rest (a.put o.dst v') w') : wpList Tryz.prog ops Q (o :: rest) a w :=
  Lib.wpList_append_run w hgd d s 22 t ho v u hd hs v' w' (hr _) h
/-- copy, at any type that the answer is said to have -/
theorem cp_ty {W : World} {g lo dl dc m k : Nat} {X : List Value} {a : Addr} {u : Value} {news : List Value} (h : Blk W g 5 X.toArray) (hp : Pt g lo dl a) (hs : Srv W u m news) (hl : news.length = m) (h1 : ∀ v ∈ news.take k, v.oneCell' = true) (hk : k = min m dl) (hX : lo + dl ≤ X.length) :
    ∃ W', (∀ ty, (Builtin.copy_ #[22, 22] ty #[.slice (some a) dl dc, u]).run Tryz.prog W = .ok (goInt k) W') ∧ Blk W' g 5 (pat X lo (news.take k)).toArray ∧ W.grownBy W' (some g) := by
  obtain ⟨W', hr, h2, h3⟩ := cp_own (dc := dc) 0 h hp hs hl h1 hk hX
  exact ⟨W', fun ty => hr, h2, h3⟩
theorem az_ty {W : World} {g i n c k : Nat} {X : List Value} {z : Int} (h : Blk W g 5 X.toArray) (hX : X.length = c) (hi : i ≤ c) (hn : n = i + k) (hr : c < n) (hz : z = (k : Int)) (hb : n ≤ 150000000000000) :
    ∃ W' G, (∀ ty, (Builtin.append_ #[22, 3] ty #[.slice (some ⟨g, 0, none⟩) i c, .int .i64 z]).run Tryz.prog W = .ok (.slice (some ⟨W.heap.size, 0, none⟩) n G) W') ∧ Blk W' W.heap.size 5 (X.take i ++ List.replicate k (Value.int .u8 0) ++ List.replicate (G - n) (Value.int .u8 0)).toArray ∧ W.grownBy W' none ∧ n ≤ G ∧ G ≤ maxLen := by
  obtain ⟨W', G, hr, h2⟩ := az_own 0 h hX hi hn hr hz hb
  exact ⟨W', G, fun ty => hr, h2⟩
/-- what a call that edits a row gives -/
def RepP (base : Nat) (v : Value) (k : Nat) (l : List UInt8) (w : World) (e : Ending) (w' : World) : Prop :=
  ∃ v', e = .returned v' ∧ w'.ownsRow base 5 1 v' k (bv l) ∧ w.grownBy w' v.ownBlock ∧ (v'.ownBlock = v.ownBlock ∨ ∃ q, v'.ownBlock = some q ∧ w.heap.size ≤ q)
theorem bv_append (a b : List UInt8) : bv (a ++ b) = bv a ++ bv b := by simp [bv]
theorem bv_take (l : List UInt8) (i : Nat) : bv (l.take i) = (bv l).take i := by simp [bv, List.map_take]
theorem bv_drop (l : List UInt8) (i : Nat) : bv (l.drop i) = (bv l).drop i := by simp [bv, List.map_drop]
/-- a row known whole is owned -/
theorem own_blk {W : World} {base g n c : Nat} {X xs : List Value} (h : Blk W g 5 X.toArray) (hb : base ≤ g) (hX : X.length = c) (hn : n ≤ c) (hc : c ≤ maxLen) (hx : X.take n = xs) : W.ownsRow base 5 1 (.slice (some ⟨g, 0, none⟩) n c) n xs :=
  ⟨by rw [← hx, List.length_take]; omega, .inr ⟨g, c, X.toArray, rfl, hb, h, hn, hc, by simp [hX], by simpa using hx⟩⟩
/-- an owned row, known whole -/
theorem blk_own {W : World} {base n : Nat} {v : Value} {xs : List Value} (h : W.ownsRow base 5 1 v n xs) (hn : 1 ≤ n) : ∃ (g c : Nat) (X : List Value), v = .slice (some ⟨g, 0, none⟩) n c ∧ base ≤ g ∧ Blk W g 5 X.toArray ∧ X.length = c ∧ n ≤ c ∧ c ≤ maxLen ∧ X.take n = xs := by
  rcases h.2 with ⟨_, h0⟩ | ⟨g, c, cur, rfl, h1, h2, h3, h4, h5, h6⟩
  · omega
  · exact ⟨g, c, cur.toList, rfl, h1, h2, by simpa using h5, h3, h4, by simpa using h6⟩
theorem Tx.ne {w : World} {ao : Option Addr} {n c : Nat} {l : List UInt8} (h : Tx w ao n c l) (hn : 0 < n) : ∃ a v, ao = some a ∧ w.cell? a = some v := by
  obtain ⟨g, o, rfl, h1⟩ := h.at hn
  exact ⟨_, _, rfl, by simpa using h1 0 hn⟩
theorem grown_drew (w : World) : w.grownBy w.drew none := ⟨rfl, rfl, rfl, Nat.le_refl _, fun _ _ _ => rfl⟩
theorem grown_some {w w' : World} (h : w.grownBy w' none) (r : Option Nat) : w.grownBy w' r := ⟨h.os, h.tape, h.output, h.size, fun k hk _ => h.block k hk (by simp)⟩
/-- what is left behind a copy of the tail and one of the new bytes -/
theorem ins_list {X V : List Value} {i j n m : Nat} (hij : i ≤ j) (hjn : j ≤ n) (hm : V.length = m) (hX : n - (j - i) + m ≤ X.length) (hn : n ≤ X.length) {S : List Value} (hS : S = (X.take n).drop j) :
    (pat (pat X (i + m) S) i V).take (n - (j - i) + m) = (X.take n).take i ++ V ++ (X.take n).drop j := by
  have hSl : S.length = n - j := by rw [hS, List.length_drop, List.length_take]; omega
  have e1 : (pat X (i + m) S).take i = (X.take n).take i := by
    unfold pat
    rw [List.append_assoc, List.take_append_of_le_length (by rw [List.length_take]; omega), List.take_take, List.take_take, show min i (i + m) = i by omega, show min i n = i by omega]
  have e2 : (pat X (i + m) S).drop (i + m) = S ++ X.drop (i + m + S.length) := by
    unfold pat
    rw [List.append_assoc, List.drop_append_of_le_length (by rw [List.length_take]; omega), List.drop_take, Nat.sub_self, List.take_zero, List.nil_append]
  have e : pat (pat X (i + m) S) i V = ((X.take n).take i ++ V ++ S) ++ X.drop (i + m + S.length) := by
    show (pat X (i + m) S).take i ++ V ++ (pat X (i + m) S).drop (i + V.length) = _
    rw [e1, hm, e2]
    simp only [List.append_assoc]
  rw [e, hS, List.take_left' (by simp only [List.length_append, List.length_take, List.length_drop]; omega)]
/-- the same, the new bytes first, in a new row -/
theorem new_list {A V S : List Value} {i m k G : Nat} (hA : A.length = i) (hm : V.length = m) (hk : S.length + m = k) :
    (pat (pat (A ++ List.replicate k (Value.int .u8 0) ++ List.replicate G (Value.int .u8 0)) i V) (i + m) S).take (i + k) = A ++ V ++ S := by
  have e0 : A ++ List.replicate k (Value.int .u8 0) ++ List.replicate G (Value.int .u8 0) = A ++ List.replicate (k + G) (Value.int .u8 0) := by
    rw [List.append_assoc, List.replicate_append_replicate]
  have e1 : pat (A ++ List.replicate k (Value.int .u8 0) ++ List.replicate G (Value.int .u8 0)) i V = A ++ V ++ List.replicate (k - m + G) (Value.int .u8 0) := by
    rw [e0]
    unfold pat
    rw [List.take_left' hA, ← List.drop_drop, List.drop_left' hA, hm, List.drop_replicate]
    congr 2; omega
  rw [e1]
  unfold pat
  rw [List.take_left' (i := i + m) (by simp [hA, hm]), List.take_left' (by simp [hA, hm]; omega)]
end Go.Proofs.YtppefcnopkmhbaaGreatDoor

namespace Go.Proofs.YtppefcnopkmhbaaGreatDoor
open Go.RowKit

set_option maxRecDepth 8000
set_option maxHeartbeats 4000000 in
/-- nothing is put in -/
theorem ins_none (base : Nat) (ao : Option Addr) (n c i : Nat) (T : List UInt8) (vo : Option Addr) (vc : Nat) (w : World) (H : Hid (w.ownsRow base 5 1 (.slice ao n c) n (bv T))) (hb : n ≤ 150000000000000) (hi : i ≤ n) :
    Calls Tryz.prog 125 #[.slice ao n c, .int .i64 (i : Int), .slice vo 0 vc] w fun e w' => RepP base (.slice ao n c) n T w e w' := by
  obtain ⟨ao', c', e0, hT⟩ := own_tx H.out hb
  simp at e0
  obtain ⟨rfl, rfl⟩ := e0
  obtain ⟨a1, c1, hs1, -⟩ := sl_l hT (lo := i) (z := (i : Int)) hi rfl
  clear hT
  go_enter Tryz.func125, Tryz.ntmps125
  go_wp2
  go_ret
  exact ⟨_, rfl, H.out, ⟨rfl, rfl, rfl, Nat.le_refl _, fun _ _ _ => rfl⟩, .inl rfl⟩
set_option maxHeartbeats 4000000 in
/-- put in behind the last byte -/
theorem ins_end (base : Nat) (ao : Option Addr) (n c : Nat) (T : List UInt8) (vo : Option Addr) (m vc : Nat) (V : List UInt8) (w : World) (H : Hid (w.ownsRow base 5 1 (.slice ao n c) n (bv T))) (HV : Hid (Tx w vo m vc V)) (hm : 0 < m) (hm2 : m ≤ 140737488355328) (hb : n + m ≤ 150000000000000) (hbase : base ≤ w.heap.size) :
    Calls Tryz.prog 125 #[.slice ao n c, .int .i64 (n : Int), .slice vo m vc] w fun e w' => RepP base (.slice ao n c) (n + m) (T ++ V) w e w' := by
  obtain ⟨ao', c', e0, hT⟩ := own_tx H.out (by omega)
  simp at e0
  obtain ⟨rfl, rfl⟩ := e0
  obtain ⟨a1, c1, hs1, -⟩ := sl_l hT (lo := n) (z := (n : Int)) (Nat.le_refl _) rfl
  have hz1 : ¬ ((m : Int) = 0) := by omega
  have hvl := Hid.mk' HV.out.len
  clear hT
  obtain ⟨v', w', hr, h2, h3, h4⟩ := run_bg 22 base (.slice ao n c) n (bv T) H.out (.slice vo m vc) m (bv V) HV.out.srv (by rw [bv_length]; exact hvl.out) (bv_one V) hb (.inl hm2) hbase
  rw [← bv_append] at h2
  have H2 := Hid.mk' h2
  have H3 := Hid.mk' h3
  have H4 := Hid.mk' h4
  have HR : Hid (∀ ty, (Builtin.append_ #[22, 22] ty #[.slice ao n c, .slice vo m vc]).run Tryz.prog w = .ok v' w') := fun ty => hr
  clear h2 h3 h4 hr
  go_enter Tryz.func125, Tryz.ntmps125
  go_wp2_with (at_builtin; refine wl_app rfl 22 _ _ rfl _ _ rfl rfl HR.out ?_)
  go_ret
  exact ⟨_, rfl, H2.out, H3.out, H4.out⟩
set_option maxHeartbeats 4000000 in
/-- put in where there is room -/
theorem ins_room (base g n c i : Nat) (T : List UInt8) (X : List Value) (va : Addr) (m vc : Nat) (V : List UInt8) (w : World) (HB : Hid (Blk w g 5 X.toArray)) (HX : Hid (X.length = c)) (HT : Hid (X.take n = bv T)) (HV : Hid (Tx w (some va) m vc V)) (hm : 0 < m) (hi : i < n) (hroom : n + m ≤ c) (hg : base ≤ g) (hc : c ≤ maxLen) (HA : Hid (va.block ≠ g)) :
    Calls Tryz.prog 125 #[.slice (some ⟨g, 0, none⟩) n c, .int .i64 (i : Int), .slice (some va) m vc] w fun e w' => RepP base (.slice (some ⟨g, 0, none⟩) n c) (n + m) (T.take i ++ V ++ T.drop i) w e w' := by
  have hc63 : c ≤ 9223372036854775807 := by unfold maxLen at hc; omega
  obtain ⟨nm, hnm⟩ : ∃ nm, nm = n + m := ⟨_, rfl⟩
  obtain ⟨im, him⟩ : ∃ im, im = i + m := ⟨_, rfl⟩
  have hz1 : ¬ ((m : Int) = 0) := by omega
  have hz2 : ¬ ((i : Int) = (n : Int)) := by omega
  have hw1 : IntKind.i64.wrap ((n : Int) + (m : Int)) = (nm : Int) := by rw [IntKind.wrap_i64]; omega
  have hw2 : IntKind.i64.wrap ((i : Int) + (m : Int)) = (im : Int) := by rw [IntKind.wrap_i64]; omega
  have hz3 : ¬ ((c : Int) < (nm : Int)) := by omega
  obtain ⟨a1, c1, hs1, -⟩ := so_l g n c i (z := (i : Int)) (by omega) (by omega) rfl
  have hs2 := so_h g n c nm (z := (nm : Int)) (by omega) rfl
  obtain ⟨a3, c3, hs3, hp3⟩ := so_l g nm c im (z := (im : Int)) (by omega) (by omega) rfl
  obtain ⟨a4, c4, hs4, hp4⟩ := so_l g nm c i (z := (i : Int)) (by omega) (by omega) rfl
  obtain ⟨va', u, e1, hcell⟩ := HV.out.ne hm
  obtain rfl : va = va' := by simpa using e1
  have hov := ovl_own2 (m := m) (c := vc) (dc := c3) HB.out hp3 hcell HA.out
  have hvl := HV.out.len
  have hXl := HX.out
  have hVt : (bv V).take m = bv V := List.take_of_length_le (by rw [bv_length]; omega)
  have hSl : ((X.drop i).take (nm - i)).take (n - i) = (X.take n).drop i := by
    rw [List.take_take, show min (n - i) (nm - i) = n - i by omega, ← List.drop_take]
  obtain ⟨W1, hr1, B1, G1⟩ := cp_ty (W := w.drew) (dc := c3) (k := n - i) (u := .slice (some a4) (nm - i) c4) (m := nm - i) HB.out hp3 (srv_pt (W := w.drew) HB.out hp4) (by rw [List.length_take, List.length_drop]; omega) (by rw [hSl, HT.out, ← bv_drop]; exact bv_one _) (by rw [Nat.min_def]; split <;> omega) (by omega)
  rw [hSl] at B1
  have hV1 : Tx W1 (some va) m vc V := by
    refine ⟨hvl, HV.out.cap, HV.out.big, HV.out.nil, fun a ha j hj => ?_⟩
    obtain rfl : va = a := by simpa using ha
    have h1 := HV.out.cells va rfl j hj
    rw [World.cell?_of_block (w := w) (G1.block _ (lt_of_cell (a := va.add j) h1) (by unfold Addr.add; split <;> (try split) <;> simpa using HA.out))]
    exact h1
  obtain ⟨W2, hr2, B2, G2⟩ := cp_ty (W := W1) (dc := c4) (k := m) (lo := i) B1 hp4 hV1.srv (by rw [bv_length]; exact hvl) (by rw [hVt]; exact bv_one V) (by rw [Nat.min_def]; split <;> omega) (by rw [pat_length (by rw [List.length_drop, List.length_take]; omega)]; omega)
  rw [hVt] at B2
  have HO : Hid (W2.ownsRow base 5 1 (.slice (some ⟨g, 0, none⟩) nm c) (n + m) (bv (T.take i ++ V ++ T.drop i))) := by
    unfold Hid
    rw [← hnm]
    have hl1 : ((X.take n).drop i).length = n - i := by rw [List.length_drop, List.length_take]; omega
    refine own_blk B2 hg ?_ (by omega) hc ?_
    · rw [pat_length (by rw [pat_length (by omega), bv_length]; omega), pat_length (by omega)]; exact hXl
    · have h9 := ins_list (X := X) (V := bv V) (i := i) (j := i) (n := n) (m := m) (Nat.le_refl _) (by omega) (by rw [bv_length]; exact hvl) (by omega) (by omega) (S := (X.take n).drop i) rfl
      rw [him, show nm = n - (i - i) + m by omega, h9, HT.out, bv_append, bv_append, bv_take, bv_drop]
  have HG : Hid (w.grownBy W2 (some g)) := (grown_some (grown_drew w) _).trans (G1.trans G2)
  have HR1 := Hid.mk' hr1
  have HR2 := Hid.mk' hr2
  have HOV := Hid.mk' hov
  clear hVt B1 G1 B2 G2 hV1 hSl hXl hvl hcell hr1 hr2 hp3 hp4 hov hc HB HX HT HV HA
  clear hnm him hroom hi hm hc63
  go_enter Tryz.func125, Tryz.ntmps125
  go_wp2_with (simp only [HOV.out])
  go_region_law (refine st_copy rfl _ _ rfl _ _ (by simp [Act.eval, Act.put]) (by simp [Act.eval, Act.put]) HR1.out ?_)
  have hr2 := HR2.out
  go_wp2
  go_ret
  exact ⟨_, rfl, HO.out, HG.out, .inl rfl⟩
end Go.Proofs.YtppefcnopkmhbaaGreatDoor

namespace Go.Proofs.YtppefcnopkmhbaaGreatDoor
open Go.RowKit

set_option maxRecDepth 8000
theorem grown_new {w W W' : World} {q : Nat} (h : w.grownBy W none) (h2 : W.grownBy W' (some q)) (hq : w.heap.size ≤ q) : w.grownBy W' none :=
  ⟨h2.os.trans h.os, h2.tape.trans h.tape, h2.output.trans h.output, Nat.le_trans h.size h2.size, fun k hk _ => by
    rw [h2.block k (by have := h.size; omega) (by intro e; injection e with e; omega)]
    exact h.block k hk (by simp)⟩
theorem Tx.grown {w W : World} {ao : Option Addr} {n c : Nat} {l : List UInt8} {r : Option Nat} (h : Tx w ao n c l) (hg : w.grownBy W r) (hne : 0 < n → ∀ a, ao = some a → some a.block ≠ r) : Tx W ao n c l :=
  ⟨h.len, h.cap, h.big, h.nil, fun a ha j hj => by
    have h1 := h.cells a ha j hj
    have e : (a.add j).block = a.block := by unfold Addr.add; split <;> (try split) <;> rfl
    rw [World.cell?_of_block (w := w) (hg.block _ (lt_of_cell h1) (by rw [e]; exact hne (by omega) a ha))]
    exact h1⟩
set_option maxHeartbeats 4000000 in
theorem ins_grow (base g n c i : Nat) (T : List UInt8) (X : List Value) (va : Addr) (m vc : Nat) (V : List UInt8) (w : World) (HB : Hid (Blk w g 5 X.toArray)) (HX : Hid (X.length = c)) (HT : Hid (X.take n = bv T)) (HV : Hid (Tx w (some va) m vc V)) (hm : 0 < m) (hi : i < n) (hnc : n ≤ c) (hroom : c < n + m) (hb : n + m ≤ 150000000000000) (hbase : base ≤ w.heap.size) :
    Calls Tryz.prog 125 #[.slice (some ⟨g, 0, none⟩) n c, .int .i64 (i : Int), .slice (some va) m vc] w fun e w' => RepP base (.slice (some ⟨g, 0, none⟩) n c) (n + m) (T.take i ++ V ++ T.drop i) w e w' := by
  obtain ⟨nm, hnm⟩ : ∃ nm, nm = n + m := ⟨_, rfl⟩
  obtain ⟨im, him⟩ : ∃ im, im = i + m := ⟨_, rfl⟩
  obtain ⟨k, hk⟩ : ∃ k, k = nm - i := ⟨_, rfl⟩
  obtain ⟨q, hq⟩ : ∃ q, q = w.heap.size := ⟨_, rfl⟩
  have hglt := HB.out.lt
  have hz1 : ¬ ((m : Int) = 0) := by omega
  have hz2 : ¬ ((i : Int) = (n : Int)) := by omega
  have hw1 : IntKind.i64.wrap ((n : Int) + (m : Int)) = (nm : Int) := by rw [IntKind.wrap_i64]; omega
  have hw2 : IntKind.i64.wrap ((i : Int) + (m : Int)) = (im : Int) := by rw [IntKind.wrap_i64]; omega
  have hw3 : IntKind.i64.wrap ((nm : Int) - (i : Int)) = (k : Int) := by rw [IntKind.wrap_i64]; omega
  have hz3 : (c : Int) < (nm : Int) := by omega
  obtain ⟨a1, c1, hs1, hp1⟩ := so_l g n c i (z := (i : Int)) (by omega) (by omega) rfl
  have hs2 := so_h g n c i (z := (i : Int)) (by omega) rfl
  have hXl := HX.out
  have hvl := HV.out.len
  have hVt : (bv V).take m = bv V := List.take_of_length_le (by rw [bv_length]; omega)
  obtain ⟨W1, G, hr1, B1, G1, hG1, hG2⟩ := az_ty (z := (k : Int)) HB.out hXl (show i ≤ c by omega) (show nm = i + k by omega) (by omega) rfl (by omega)
  rw [← hq] at hr1 B1
  obtain ⟨a3, c3, hs3, hp3⟩ := so_l q nm G i (z := (i : Int)) (by omega) (by omega) rfl
  obtain ⟨a4, c4, hs4, hp4⟩ := so_l q nm G im (z := (im : Int)) (by omega) (by omega) rfl
  have hV1 : Tx W1 (some va) m vc V := HV.out.grown G1 (fun _ _ _ => by simp)
  have hl1 : (X.take i ++ List.replicate k (Value.int .u8 0) ++ List.replicate (G - nm) (Value.int .u8 0)).length = G := by simp only [List.length_append, List.length_take, List.length_replicate]; omega
  obtain ⟨W2, hr2, B2, G2⟩ := cp_ty (W := W1) (dc := c3) (k := m) (lo := i) B1 hp3 hV1.srv (by rw [bv_length]; exact hvl) (by rw [hVt]; exact bv_one V) (by rw [Nat.min_def]; split <;> omega) (by omega)
  rw [hVt] at B2
  have hl2 : (pat (X.take i ++ List.replicate k (Value.int .u8 0) ++ List.replicate (G - nm) (Value.int .u8 0)) i (bv V)).length = G := by rw [pat_length (by rw [hl1, bv_length]; omega)]; exact hl1
  have X2 : Blk W2 g 5 X.toArray := (HB.out.grown G1 (by simp)).grown G2 (by intro e; injection e with e; omega)
  have hSl : ((X.drop i).take (n - i)).take (n - i) = (X.take n).drop i := by
    rw [List.take_take, Nat.min_self, ← List.drop_take]
  obtain ⟨W3, hr3, B3, G3⟩ := cp_ty (W := W2.drew) (dc := c4) (k := n - i) (u := .slice (some a1) (n - i) c1) (m := n - i) B2 hp4 (srv_pt (W := W2.drew) X2 hp1) (by rw [List.length_take, List.length_drop]; omega) (by rw [hSl, HT.out, ← bv_drop]; exact bv_one _) (by rw [Nat.min_def]; split <;> omega) (by rw [hl2]; omega)
  rw [hSl] at B3
  have hSn : ((X.take n).drop i).length = n - i := by rw [List.length_drop, List.length_take]; omega
  have HO : Hid (W3.ownsRow base 5 1 (.slice (some ⟨q, 0, none⟩) nm G) (n + m) (bv (T.take i ++ V ++ T.drop i))) := by
    unfold Hid
    rw [← hnm]
    refine own_blk B3 (by omega) ?_ hG1 hG2 ?_
    · rw [pat_length (by rw [hl2]; omega)]; exact hl2
    · have h9 := new_list (A := X.take i) (V := bv V) (S := (X.take n).drop i) (i := i) (m := m) (k := k) (G := G - nm) (by rw [List.length_take]; omega) (by rw [bv_length]; exact hvl) (by omega)
      rw [him, show nm = i + k by omega]
      rw [show G - nm = G - (i + k) by omega] at h9
      rw [h9, bv_append, bv_append, bv_take, bv_drop, ← HT.out, List.take_take, show min i n = i by omega]
  have HG : Hid (w.grownBy W3 (some g)) := grown_some (grown_new ((grown_new G1 G2 (by omega)).trans (grown_drew W2)) G3 (by omega)) _
  have HQ : Hid (w.heap.size ≤ q) := by unfold Hid; omega
  have HR1 := Hid.mk' hr1
  have HR2 := Hid.mk' hr2
  have HR3 := Hid.mk' hr3
  clear hVt hglt B1 G1 B2 G2 B3 G3 X2 hV1 hSl hSn hXl hvl hr1 hr2 hr3 hp1 hp3 hp4 HB HX HT HV hl1 hl2 hq hk hG1 hG2 hnm him hroom hi hm hb hbase hnc
  have hr2 := HR2.out
  go_enter Tryz.func125, Tryz.ntmps125
  go_wp2_with (at_builtin; refine wl_app rfl 3 _ _ rfl _ _ rfl rfl HR1.out ?_)
  go_region_law (refine st_copy rfl _ _ rfl _ _ (by simp [Act.eval, Act.put]) (by simp [Act.eval, Act.put]) HR3.out ?_)
  go_wp2
  go_ret
  exact ⟨_, rfl, HO.out, HG.out, .inr ⟨q, rfl, HQ.out⟩⟩
end Go.Proofs.YtppefcnopkmhbaaGreatDoor

namespace Go.Proofs.YtppefcnopkmhbaaGreatDoor
open Go.RowKit

set_option maxRecDepth 8000
theorem insert_any (base : Nat) (v : Value) (n i : Nat) (T : List UInt8) (vo : Option Addr) (m vc : Nat) (V : List UInt8) (w : World) (H : Hid (w.ownsRow base 5 1 v n (bv T))) (HV : Hid (Tx w vo m vc V)) (HA : Hid (0 < m → ∀ a, vo = some a → a.block < base)) (hi : i ≤ n) (hm2 : m ≤ 140737488355328) (hb : n + m ≤ 150000000000000) (hbase : base ≤ w.heap.size) :
    Calls Tryz.prog 125 #[v, .int .i64 (i : Int), .slice vo m vc] w fun e w' => RepP base v (n + m) (T.take i ++ V ++ T.drop i) w e w' := by
  have hTl : T.length = n := by have := H.out.1; rw [bv_length] at this; omega
  have hvl := HV.out.len
  obtain ⟨ao, c, rfl⟩ := own_shape H.out
  by_cases h0 : m = 0
  · subst h0
    have : V = [] := List.eq_nil_of_length_eq_zero hvl
    subst this
    have e : T.take i ++ [] ++ T.drop i = T := by simp
    rw [e]
    exact ins_none base ao n c i T vo vc w H (by omega) hi
  · by_cases hin : i = n
    · subst hin
      have e : T.take i ++ V ++ T.drop i = T ++ V := by rw [List.take_of_length_le (by omega), List.drop_eq_nil_of_le (by omega), List.append_nil]
      rw [e]
      exact ins_end base ao i c T vo m vc V w H HV (by omega) hm2 hb hbase
    · obtain ⟨g, c', X, e, hg, hB, hX, hnc, hc, hT⟩ := blk_own H.out (by omega)
      simp only [Value.slice.injEq, true_and] at e
      obtain ⟨rfl, rfl⟩ := e
      obtain ⟨va, u, rfl, hcell⟩ := HV.out.ne (by omega)
      by_cases hroom : n + m ≤ c
      · exact ins_room base g n c i T X va m vc V w hB hX hT HV (by omega) (by omega) hroom hg hc (by have := HA.out (by omega) va rfl; unfold Hid; omega)
      · exact ins_grow base g n c i T X va m vc V w hB hX hT HV (by omega) (by omega) hnc (by omega) hb hbase
theorem so_lk (g n c lo k : Nat) {z : Int} (hn : n ≤ c) (hlo : lo ≤ n) (hz : z = (lo : Int)) (hk : k = n - lo) : ∃ a' c', (∀ W, (Instr.sliceAt 22 (.slice (some ⟨g, 0, none⟩) n c) (some (.int .i64 z)) none none).run Tryz.prog W = .ok (.slice (some a') k c') W) ∧ Pt g lo k a' := by
  subst hk; exact so_l g n c lo hn hlo hz
set_option maxHeartbeats 4000000 in
/-- nothing is taken out -/
theorem rep_ins (base : Nat) (v : Value) (n i : Nat) (T : List UInt8) (vo : Option Addr) (m vc : Nat) (V : List UInt8) (w : World) (H : Hid (w.ownsRow base 5 1 v n (bv T))) (HV : Hid (Tx w vo m vc V)) (HA : Hid (0 < m → ∀ a, vo = some a → a.block < base)) (hi : i ≤ n) (hm2 : m ≤ 140737488355328) (hb : n + m ≤ 150000000000000) (hbase : base ≤ w.heap.size) :
    Calls Tryz.prog 95 #[v, .int .i64 (i : Int), .int .i64 (i : Int), .slice vo m vc] w fun e w' => RepP base v (n + m) (T.take i ++ V ++ T.drop i) w e w' := by
  have C := Hid.mk' (insert_any base v n i T vo m vc V w H HV HA hi hm2 hb hbase)
  obtain ⟨ao, c, rfl, hT⟩ := own_tx H.out (by omega)
  obtain ⟨a1, c1, hs1, -⟩ := sl_lh hT (lo := i) (m := 0) hi
  have hs2 : ∀ W, (Instr.sliceAt 22 (.slice ao n c) (some (.int .i64 (i : Int))) (some (.int .i64 (i : Int))) none).run Tryz.prog W = .ok (.slice a1 0 c1) W := fun W => by have := hs1 W; simpa using this
  clear hT hs1 hm2 hb hbase hi HA HV H
  go_enter Tryz.func95, Tryz.ntmps95
  go_wp2_with fail
  refine C.out.mono ?_
  rintro e w1 ⟨v', rfl, h1⟩
  have H1 := Hid.mk' h1
  clear h1 C
  dsimp only
  go_wp2
  go_ret
  exact ⟨v', rfl, H1.out⟩
end Go.Proofs.YtppefcnopkmhbaaGreatDoor

namespace Go.Proofs.YtppefcnopkmhbaaGreatDoor
open Go.RowKit

set_option maxRecDepth 8000
theorem cl_none {W : World} {c : Nat} {a : Addr} (ty : Nat) : (Builtin.clear_ #[22] ty #[.slice (some a) 0 c]).run Tryz.prog W = .ok (.tuple #[]) W := by
  simp [Builtin.clear_, run_underlying Tryz.underlying22]
/-- clear, of something or nothing -/
theorem cl_ty {W : World} {g lo k c : Nat} {X : List Value} {a : Addr} (h : Blk W g 5 X.toArray) (hp : Pt g lo k a) (hX : lo + k ≤ X.length) :
    ∃ W', (∀ ty, (Builtin.clear_ #[22] ty #[.slice (some a) k c]).run Tryz.prog W = .ok (.tuple #[]) W') ∧ Blk W' g 5 (pat X lo (List.replicate k (Value.int .u8 0))).toArray ∧ W.grownBy W' (some g) := by
  by_cases h0 : k = 0
  · subst h0
    exact ⟨W, fun ty => cl_none ty, by unfold pat; simpa using h, ⟨rfl, rfl, rfl, Nat.le_refl _, fun _ _ _ => rfl⟩⟩
  · obtain ⟨W', hr, h2, h3⟩ := cl_own (c := c) 0 h hp (by omega) hX
    exact ⟨W', fun ty => hr, h2, h3⟩
theorem ap_ty {W : World} {g i c m : Nat} {X : List Value} {u : Value} {news : List Value} (h : Blk W g 5 X.toArray) (hX : X.length = c) (hc : c ≤ maxLen) (hi : i + m ≤ c) (hs : Srv W u m news) (hl : news.length = m) (h1 : ∀ v ∈ news, v.oneCell' = true) :
    ∃ W', (∀ ty, (Builtin.append_ #[22, 22] ty #[.slice (some ⟨g, 0, none⟩) i c, u]).run Tryz.prog W = .ok (.slice (some ⟨g, 0, none⟩) (i + m) c) W') ∧ Blk W' g 5 (pat X i news).toArray ∧ W.grownBy W' (some g) := by
  obtain ⟨W', hr, h2⟩ := ap_own 0 h hX hc hi hs hl h1
  exact ⟨W', fun ty => hr, h2⟩
theorem pat_take {X V : List Value} {i m : Nat} (hV : V.length = m) (hi : i + m ≤ X.length) : (pat X i V).take (i + m) = X.take i ++ V := by
  unfold pat
  rw [List.take_left' (by rw [List.length_append, List.length_take]; omega)]
theorem pat_low {X V : List Value} {i k : Nat} (hk : k ≤ i) (hi : i ≤ X.length) : (pat X i V).take k = X.take k := by
  unfold pat
  rw [List.append_assoc, List.take_append_of_le_length (by rw [List.length_take]; omega), List.take_take, show min k i = k by omega]
theorem pat_high {X V : List Value} {i k : Nat} (hk : i + V.length ≤ k) (hi : i + V.length ≤ X.length) : (pat X i V).drop k = X.drop k := by
  have e : ∀ (A B : List Value) (k : Nat), A.length ≤ k → (A ++ B).drop k = B.drop (k - A.length) := fun A B k h => by
    rw [List.drop_append, List.drop_eq_nil_of_le h, List.nil_append]
  unfold pat
  rw [e _ _ _ (by rw [List.length_append, List.length_take]; omega), List.drop_drop, List.length_append, List.length_take]
  congr 1; omega
set_option maxHeartbeats 4000000 in
/-- all bytes from i on, into a new row -/
theorem rep_endg (base g n c i : Nat) (T : List UInt8) (X : List Value) (vo : Option Addr) (m vc : Nat) (V : List UInt8) (w : World) (HB : Hid (Blk w g 5 X.toArray)) (HX : Hid (X.length = c)) (HT : Hid (X.take n = bv T)) (HV : Hid (Tx w vo m vc V)) (hi : i < n) (hnc : n ≤ c) (hroom : c < i + m) (hc : c ≤ maxLen) (hg : base ≤ g) (hm2 : m ≤ 140737488355328) (hb : i + m ≤ 150000000000000) (hbase : base ≤ w.heap.size) :
    Calls Tryz.prog 95 #[.slice (some ⟨g, 0, none⟩) n c, .int .i64 (i : Int), .int .i64 (n : Int), .slice vo m vc] w fun e w' => RepP base (.slice (some ⟨g, 0, none⟩) n c) (i + m) (T.take i ++ V) w e w' := by
  have hz1 : ¬ ((i : Int) = (n : Int)) := by omega
  obtain ⟨a1, c1, hs1, -⟩ := so_lh g n c i n (y := (i : Int)) (z := (n : Int)) (by omega) hnc rfl rfl
  have hs2 := so_h g n c i (z := (i : Int)) (by omega) rfl
  have hvl := HV.out.len
  have hown : w.ownsRow base 5 1 (.slice (some ⟨g, 0, none⟩) i c) i (bv (T.take i)) := own_blk HB.out hg HX.out (by omega) hc (by rw [bv_take, ← HT.out, List.take_take, show min i n = i by omega])
  obtain ⟨v', w', hr, h2, h3, h4⟩ := run_bg 22 base (.slice (some ⟨g, 0, none⟩) i c) i (bv (T.take i)) hown (.slice vo m vc) m (bv V) HV.out.srv (by rw [bv_length]; exact hvl) (bv_one V) hb (.inl hm2) hbase
  rw [← bv_append] at h2
  obtain ⟨ao', c', rfl⟩ := own_shape h2
  obtain ⟨im, him⟩ : ∃ im, im = i + m := ⟨_, rfl⟩
  rw [← him] at h2 hr h4 ⊢
  have hz2 : ¬ ((im : Int) < (n : Int)) := by omega
  have H2 := Hid.mk' h2
  have H3 := Hid.mk' h3
  have H4 := Hid.mk' h4
  have HR : Hid (∀ ty, (Builtin.append_ #[22, 22] ty #[.slice (some ⟨g, 0, none⟩) i c, .slice vo m vc]).run Tryz.prog w = .ok (.slice ao' im c') w') := fun ty => hr
  clear h2 h3 h4 hr hown hvl HB HX HT HV hi hnc hroom hc hg hm2 hb hbase him
  go_enter Tryz.func95, Tryz.ntmps95
  go_wp2_with (at_builtin; refine wl_app rfl 22 _ _ rfl _ _ rfl rfl HR.out ?_)
  go_ret
  exact ⟨_, rfl, H2.out, H3.out, H4.out⟩
set_option maxHeartbeats 4000000 in
/-- all bytes from i on, in place -/
theorem rep_endr (base g n c i : Nat) (T : List UInt8) (X : List Value) (vo : Option Addr) (m vc : Nat) (V : List UInt8) (w : World) (HB : Hid (Blk w g 5 X.toArray)) (HX : Hid (X.length = c)) (HT : Hid (X.take n = bv T)) (HV : Hid (Tx w vo m vc V)) (hi : i < n) (hnc : n ≤ c) (hroom : i + m ≤ c) (hc : c ≤ maxLen) (hg : base ≤ g) :
    Calls Tryz.prog 95 #[.slice (some ⟨g, 0, none⟩) n c, .int .i64 (i : Int), .int .i64 (n : Int), .slice vo m vc] w fun e w' => RepP base (.slice (some ⟨g, 0, none⟩) n c) (i + m) (T.take i ++ V) w e w' := by
  have hz1 : ¬ ((i : Int) = (n : Int)) := by omega
  obtain ⟨a1, c1, hs1, -⟩ := so_lh g n c i n (y := (i : Int)) (z := (n : Int)) (by omega) hnc rfl rfl
  have hs2 := so_h g n c i (z := (i : Int)) (by omega) rfl
  have hvl := HV.out.len
  have hXl := HX.out
  obtain ⟨W1, hr1, B1, G1⟩ := ap_ty HB.out hXl hc hroom HV.out.srv (by rw [bv_length]; exact hvl) (bv_one V)
  obtain ⟨im, him⟩ : ∃ im, im = i + m := ⟨_, rfl⟩
  have hl1 : (pat X i (bv V)).length = c := by rw [pat_length (by rw [bv_length]; omega)]; exact hXl
  have ht1 : (pat X i (bv V)).take im = bv (T.take i ++ V) := by
    rw [him, pat_take (by rw [bv_length]; exact hvl) (by omega), bv_append, bv_take, ← HT.out, List.take_take, show min i n = i by omega]
  rw [← him] at hr1 ⊢
  by_cases hsh : im < n
  · have hz2 : (im : Int) < (n : Int) := by omega
    obtain ⟨a2, c2, hs3, hp2⟩ := so_lk g n c im (n - im) (z := (im : Int)) hnc (by omega) rfl rfl
    obtain ⟨W2, hr2, B2, G2⟩ := cl_ty (c := c2) B1 hp2 (by omega)
    have HO : Hid (W2.ownsRow base 5 1 (.slice (some ⟨g, 0, none⟩) im c) im (bv (T.take i ++ V))) := by
      refine own_blk B2 hg ?_ (by omega) hc ?_
      · rw [pat_length (by rw [List.length_replicate]; omega)]; exact hl1
      · rw [pat_low (Nat.le_refl _) (by omega)]; exact ht1
    have HG : Hid (w.grownBy W2 (some g)) := G1.trans G2
    have HR := Hid.mk' hr1
    clear hvl HB HX HT HV hi hnc hroom hc hg him hsh hr1 B1 G1 B2 G2 hp2 hl1 ht1 hXl
    go_enter Tryz.func95, Tryz.ntmps95
    go_wp2_with (at_builtin; refine wl_app rfl 22 _ _ rfl _ _ rfl rfl HR.out ?_)
    go_ret
    exact ⟨_, rfl, HO.out, HG.out, .inl rfl⟩
  · have hz2 : ¬ (im : Int) < (n : Int) := by omega
    have HO : Hid (W1.ownsRow base 5 1 (.slice (some ⟨g, 0, none⟩) im c) im (bv (T.take i ++ V))) := own_blk B1 hg hl1 (by omega) hc ht1
    have HG := Hid.mk' G1
    have HR := Hid.mk' hr1
    clear hvl HB HX HT HV hi hnc hroom hc hg him hsh hr1 B1 G1 hl1 ht1 hXl
    go_enter Tryz.func95, Tryz.ntmps95
    go_wp2_with (at_builtin; refine wl_app rfl 22 _ _ rfl _ _ rfl rfl HR.out ?_)
    go_ret
    exact ⟨_, rfl, HO.out, HG.out, .inl rfl⟩
end Go.Proofs.YtppefcnopkmhbaaGreatDoor

namespace Go.Proofs.YtppefcnopkmhbaaGreatDoor
open Go.RowKit

set_option maxRecDepth 8000
set_option maxHeartbeats 4000000 in
/-- into a new row -/
theorem rep_grow (base g n c i j : Nat) (T : List UInt8) (X : List Value) (va : Addr) (m vc tot : Nat) (V : List UInt8) (w : World) (HB : Hid (Blk w g 5 X.toArray)) (HX : Hid (X.length = c)) (HT : Hid (X.take n = bv T)) (HV : Hid (Tx w (some va) m vc V)) (hij : i < j) (hjn : j < n) (hnc : n ≤ c) (htot : tot = i + m + (n - j)) (hroom : c < tot) (hb : tot ≤ 150000000000000) (hbase : base ≤ w.heap.size) :
    Calls Tryz.prog 95 #[.slice (some ⟨g, 0, none⟩) n c, .int .i64 (i : Int), .int .i64 (j : Int), .slice (some va) m vc] w fun e w' => RepP base (.slice (some ⟨g, 0, none⟩) n c) tot (T.take i ++ V ++ T.drop j) w e w' := by
  obtain ⟨im, him⟩ : ∃ im, im = i + m := ⟨_, rfl⟩
  obtain ⟨nj, hnj⟩ : ∃ nj, nj = n - j := ⟨_, rfl⟩
  obtain ⟨k, hk⟩ : ∃ k, k = tot - i := ⟨_, rfl⟩
  obtain ⟨q, hq⟩ : ∃ q, q = w.heap.size := ⟨_, rfl⟩
  have hglt := HB.out.lt
  have hz1 : ¬ ((i : Int) = (j : Int)) := by omega
  have hz2 : ¬ ((j : Int) = (n : Int)) := by omega
  have hw1 : IntKind.i64.wrap ((i : Int) + (m : Int)) = (im : Int) := by rw [IntKind.wrap_i64]; omega
  have hw2 : IntKind.i64.wrap ((im : Int) + (nj : Int)) = (tot : Int) := by rw [IntKind.wrap_i64]; omega
  have hw3 : IntKind.i64.wrap ((tot : Int) - (i : Int)) = (k : Int) := by rw [IntKind.wrap_i64]; omega
  have hz3 : (c : Int) < (tot : Int) := by omega
  obtain ⟨a0, c0, hs0, -⟩ := so_lh g n c i j (y := (i : Int)) (z := (j : Int)) (by omega) (by omega) rfl rfl
  obtain ⟨a1, c1, hs1, hp1⟩ := so_lk g n c j nj (z := (j : Int)) hnc (by omega) rfl hnj
  have hs2 := so_h g n c i (z := (i : Int)) (by omega) rfl
  have hXl := HX.out
  have hvl := HV.out.len
  have hVt : (bv V).take m = bv V := List.take_of_length_le (by rw [bv_length]; omega)
  obtain ⟨W1, G, hr1, B1, G1, hG1, hG2⟩ := az_ty (W := w.drew) (z := (k : Int)) HB.out hXl (show i ≤ c by omega) (show tot = i + k by omega) (by omega) rfl (by omega)
  rw [show w.drew.heap.size = q from hq.symm] at hr1 B1
  obtain ⟨a3, c3, hs3, hp3⟩ := so_lk q tot G i k (z := (i : Int)) (by omega) (by omega) rfl hk
  obtain ⟨a4, c4, hs4, hp4⟩ := so_lk q tot G im nj (z := (im : Int)) (by omega) (by omega) rfl (by omega)
  have hV1 : Tx W1 (some va) m vc V := (HV.out.keep (Below.refl _ _).drew).grown G1 (fun _ _ _ => by simp)
  have hl1 : (X.take i ++ List.replicate k (Value.int .u8 0) ++ List.replicate (G - tot) (Value.int .u8 0)).length = G := by simp only [List.length_append, List.length_take, List.length_replicate]; omega
  obtain ⟨W2, hr2, B2, G2⟩ := cp_ty (W := W1) (dc := c3) (k := m) (lo := i) B1 hp3 hV1.srv (by rw [bv_length]; exact hvl) (by rw [hVt]; exact bv_one V) (by rw [Nat.min_def]; split <;> omega) (by omega)
  rw [hVt] at B2
  have hl2 : (pat (X.take i ++ List.replicate k (Value.int .u8 0) ++ List.replicate (G - tot) (Value.int .u8 0)) i (bv V)).length = G := by rw [pat_length (by rw [hl1, bv_length]; omega)]; exact hl1
  have X2 : Blk W2 g 5 X.toArray := (Blk.grown (W := w.drew) HB.out G1 (by simp)).grown G2 (by intro e; injection e with e; omega)
  have hSl : ((X.drop j).take nj).take nj = (X.take n).drop j := by
    rw [List.take_take, Nat.min_self, hnj, ← List.drop_take]
  obtain ⟨W3, hr3, B3, G3⟩ := cp_ty (W := W2.drew) (dc := c4) (k := nj) (u := .slice (some a1) nj c1) (m := nj) B2 hp4 (srv_pt (W := W2.drew) X2 hp1) (by rw [List.length_take, List.length_drop]; omega) (by rw [hSl, HT.out, ← bv_drop]; exact bv_one _) (by rw [Nat.min_self]) (by rw [hl2]; omega)
  rw [hSl] at B3
  have hSn : ((X.take n).drop j).length = nj := by rw [List.length_drop, List.length_take]; omega
  have HO : Hid (W3.ownsRow base 5 1 (.slice (some ⟨q, 0, none⟩) tot G) tot (bv (T.take i ++ V ++ T.drop j))) := by
    refine own_blk B3 (by omega) ?_ hG1 hG2 ?_
    · rw [pat_length (by rw [hl2]; omega)]; exact hl2
    · have h9 := new_list (A := X.take i) (V := bv V) (S := (X.take n).drop j) (i := i) (m := m) (k := k) (G := G - tot) (by rw [List.length_take]; omega) (by rw [bv_length]; exact hvl) (by omega)
      rw [him, show tot = i + k by omega]
      rw [show G - tot = G - (i + k) by omega] at h9
      rw [h9, bv_append, bv_append, bv_take, bv_drop, ← HT.out, List.take_take, show min i n = i by omega]
  have HG : Hid (w.grownBy W3 (some g)) := grown_some (grown_new ((grown_new ((grown_drew w).trans G1) G2 (by omega)).trans (grown_drew W2)) G3 (by omega)) _
  have HQ : Hid (w.heap.size ≤ q) := by unfold Hid; omega
  have HR1 := Hid.mk' hr1
  have HR3 := Hid.mk' hr3
  clear hVt hglt B1 G1 B2 G2 B3 G3 X2 hV1 hSl hSn hXl hvl hr1 hr3 hp1 hp3 hp4 HB HX HT HV hl1 hl2 hq hk hG1 hG2 him hnj hroom hij hjn hb hbase hnc htot
  have hmx : Tryz.prog.follows .mixedOrders = true := by kernel_rfl
  go_enter Tryz.func95, Tryz.ntmps95
  go_wp2_with (at_builtin; refine wl_app rfl 3 _ _ rfl _ _ rfl rfl HR1.out ?_)
  go_region
  go_wp2_with (at_builtin; refine wl_app rfl 3 _ _ rfl _ _ rfl rfl HR1.out ?_)
  go_region_law (refine st_copy rfl _ _ rfl _ _ (by simp [Act.eval, Act.put]) (by simp [Act.eval, Act.put]) HR3.out ?_)
  go_wp2
  go_ret
  exact ⟨_, rfl, HO.out, HG.out, .inr ⟨q, rfl, HQ.out⟩⟩
end Go.Proofs.YtppefcnopkmhbaaGreatDoor
