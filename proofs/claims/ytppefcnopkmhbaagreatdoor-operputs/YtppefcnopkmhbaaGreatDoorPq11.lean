/- Eff, Swp, Op3 -/
import Derived.Test.YtppefcnopkmhbaaGreatDoorPq08
import Derived.Test.YtppefcnopkmhbaaGreatDoorPq09
import Derived.Test.YtppefcnopkmhbaaGreatDoorPq10
namespace Go.Proofs.YtppefcnopkmhbaaGreatDoor
open Go.RowKit

set_option maxRecDepth 8000
/-- the texts of edits -/
def tes (F : List Er) : List (Value × List UInt8) := F.flatMap fun r => [(.slice r.p1 r.o r.c1, r.O), (.slice r.p2 r.n r.c2, r.N)]
theorem tes_snoc (F : List Er) (r : Er) : tes (F ++ [r]) = tes F ++ [(.slice r.p1 r.o r.c1, r.O), (.slice r.p2 r.n r.c2, r.N)] := by simp [tes]
theorem tes_len (F : List Er) : (tes F).length = F.length * 2 := by
  induction F with
  | nil => rfl
  | cons r F ih => show (_ ++ tes F).length = _; rw [List.length_append, ih, List.length_cons]; simp; omega
theorem tes_at {F : List Er} {k : Nat} {r : Er} (h : F[k]? = some r) : (tes F)[k * 2]? = some (.slice r.p1 r.o r.c1, r.O) ∧ (tes F)[k * 2 + 1]? = some (.slice r.p2 r.n r.c2, r.N) := by
  induction F generalizing k with
  | nil => simp at h
  | cons x F ih =>
    cases k with
    | zero => simp at h; subst h; exact ⟨rfl, rfl⟩
    | succ k =>
      rw [List.getElem?_cons_succ] at h
      obtain ⟨h1, h2⟩ := ih h
      have e : ∀ j, (tes (x :: F))[(k + 1) * 2 + j]? = (tes F)[k * 2 + j]? := fun j => by
        show (_ ++ tes F)[(k + 1) * 2 + j]? = _
        rw [List.getElem?_append_right (by simp; omega)]
        congr 1; simp; omega
      exact ⟨(e 0).trans h1, (e 1).trans h2⟩
/-- edits of one's own, from lo on and below hi -/
structure Eds (W : World) (lo hi : Nat) (v : Value) (F : List Er) : Prop where
  row : W.ownsRow lo 65 3 v F.length (ecs F)
  up : ∀ g, v.ownBlock = some g → g < hi
  tx : ∀ (k : Nat) (x : Value × List UInt8), (tes F)[k]? = some x → Wb W lo hi x.1 x.2
  far : ∀ (i j : Nat) (x y : Value × List UInt8), i ≠ j → (tes F)[i]? = some x → (tes F)[j]? = some y → Far x.1 y.1
  big : ∀ r ∈ F, r.o ≤ 140737488355328 ∧ r.n ≤ 140737488355328
theorem Eds.nil (W : World) (lo hi : Nat) : Eds W lo hi (.slice none 0 0) [] :=
  ⟨⟨rfl, .inl ⟨rfl, rfl⟩⟩, (fun g hg => by cases hg), (fun k x h => by simp [tes] at h), (fun i j x y _ h => by simp [tes] at h), (fun r h => by simp at h)⟩
theorem Eds.keep {W W' : World} {lo hi : Nat} {v : Value} {F : List Er} (h : Eds W lo hi v F) (hb : Below W.heap.size W W') : Eds W' lo hi v F := ⟨own_keep h.row hb, h.up, fun k x hk => (h.tx k x hk).keep hb, h.far, h.big⟩
theorem Eds.wide {W : World} {lo hi lo' hi' : Nat} {v : Value} {F : List Er} (h : Eds W lo hi v F) (h1 : lo' ≤ lo) (h2 : hi ≤ hi') : Eds W lo' hi' v F := ⟨own_lower h.row h1, fun g hg => Nat.lt_of_lt_of_le (h.up g hg) h2, fun k x hk => (h.tx k x hk).wide h1 h2, h.far, h.big⟩
theorem Eds.et {W : World} {lo hi k : Nat} {v : Value} {F : List Er} {r : Er} (h : Eds W lo hi v F) (hk : F[k]? = some r) : Et W r := by
  obtain ⟨h1, h2⟩ := tes_at hk
  have b := h.big r (List.mem_of_getElem? hk)
  have t1 := h.tx _ _ h1
  have t2 := h.tx _ _ h2
  obtain ⟨_, _, e1⟩ := t1.shape
  obtain ⟨_, _, e2⟩ := t2.shape
  simp at e1 e2
  exact ⟨t1.tx (by dsimp only; omega), t2.tx (by dsimp only; omega), b.1, b.2⟩
theorem Eds.edz {W : World} {lo hi : Nat} {v : Value} {F : List Er} (h : Eds W lo hi v F) : ∃ ao c, v = .slice ao F.length c ∧ Edz W ao F ∧ (ao = none → c = 0) := by
  obtain ⟨ao, c, rfl, hE, -⟩ := own_edr h.row
  refine ⟨ao, c, rfl, ⟨hE, fun k r hk => h.et hk⟩, fun e => ?_⟩
  subst e
  rcases h.row.2 with ⟨e, _⟩ | ⟨g, cap, cur, e, _⟩
  · simp at e; exact e.2
  · simp at e
theorem own_same {W W' : World} {base e s n : Nat} {v : Value} {xs : List Value} (h : W.ownsRow base e s v n xs) (hb : ∀ g, v.ownBlock = some g → g < W.heap.size → W'.heap[g]? = W.heap[g]?) : W'.ownsRow base e s v n xs := by
  have hlt := h.lt
  refine ⟨h.1, ?_⟩
  rcases h.2 with h0 | ⟨g, cap, cur, rfl, h1, h2, h3⟩
  · exact .inl h0
  · exact .inr ⟨g, cap, cur, rfl, h1, by rw [hb g rfl (hlt g rfl).2]; exact h2, h3⟩
theorem Eds.grown {W W' : World} {lo hi B : Nat} {v : Value} {F : List Er} (h : Eds W lo hi v F) (hg : W.grownBy W' (some B)) (hB : B < lo ∨ hi ≤ B) : Eds W' lo hi v F :=
  ⟨own_same h.row (fun g h1 h2 => hg.block g h2 (fun e => by injection e with e; have := (h.row.lt g h1).1; have := h.up g h1; omega)), h.up, fun k x hk => (h.tx k x hk).grown hg hB, h.far, h.big⟩
/-- one edit -/
theorem Eds.one {W W' : World} {lo hi B c1 c2 : Nat} {p1 p2 : Option Addr} {a : Int} {O N : List UInt8} (h1 : Wb W lo hi (.slice p1 O.length c1) O) (h2 : Wb W lo hi (.slice p2 N.length c2) N) (hf : Far (.slice p1 O.length c1) (.slice p2 N.length c2)) (b1 : O.length ≤ 140737488355328) (b2 : N.length ≤ 140737488355328) (hB : hi ≤ B) (hlo : lo ≤ B) (hW : Below W.heap.size W W') (hK : Blk W' B 65 #[.int .i64 a, .slice p1 O.length c1, .slice p2 N.length c2]) :
    Eds W' lo (B + 1) (.slice (some ⟨B, 0, none⟩) 1 1) [⟨a, p1, O.length, c1, O, p2, N.length, c2, N⟩] := by
  refine ⟨⟨rfl, .inr ⟨B, 1, _, rfl, hlo, hK, Nat.le_refl _, by unfold maxLen; omega, rfl, rfl⟩⟩, (fun g hg => by have e : B = g := Option.some.inj hg; omega), fun k x hk => ?_, fun i j x y hij hi hj => ?_, fun r hr => ?_⟩
  · match k, hk with
    | 0, hk => simp [tes] at hk; subst hk; exact (h1.keep hW).wide (Nat.le_refl _) (by omega)
    | 1, hk => simp [tes] at hk; subst hk; exact (h2.keep hW).wide (Nat.le_refl _) (by omega)
    | k + 2, hk => simp [tes] at hk
  · match i, j, hi, hj with
    | 0, 0, _, _ => exact absurd rfl hij
    | 1, 1, _, _ => exact absurd rfl hij
    | 0, 1, hi, hj => simp [tes] at hi hj; subst hi hj; exact hf
    | 1, 0, hi, hj => simp [tes] at hi hj; subst hi hj; exact hf.symm
    | i + 2, _, hi, _ => simp [tes] at hi
    | _, j + 2, _, hj => simp [tes] at hj
  · simp at hr; subst hr; exact ⟨b1, b2⟩
/-- an effect, plain -/
structure Ef where
  es : List Ed
  cur : Int
  set : Bool
  lin : Bool
  txt : List UInt8
  how : Int
  typ : Bool
def ef0 : Ef := ⟨[], 0, false, false, [], 0, false⟩
def efV (v tv : Value) (x : Ef) : Value := .agg #[v, .int .i64 x.cur, .bool x.set, .bool x.lin, tv, .int .i64 x.how, .bool x.typ]
/-- an effect's memory -/
structure Efm (W : World) (lo hi : Nat) (v : Value) (F : List Er) (tv : Value) (T : List UInt8) : Prop where
  eds : Eds W lo hi v F
  tx : Wb W lo hi tv T
  far : ∀ (k : Nat) (x : Value × List UInt8), (tes F)[k]? = some x → Far tv x.1
theorem Efm.keep {W W' : World} {lo hi : Nat} {v tv : Value} {F : List Er} {T : List UInt8} (h : Efm W lo hi v F tv T) (hb : Below W.heap.size W W') : Efm W' lo hi v F tv T := ⟨h.eds.keep hb, h.tx.keep hb, h.far⟩
theorem Efm.wide {W : World} {lo hi lo' hi' : Nat} {v tv : Value} {F : List Er} {T : List UInt8} (h : Efm W lo hi v F tv T) (h1 : lo' ≤ lo) (h2 : hi ≤ hi') : Efm W lo' hi' v F tv T := ⟨h.eds.wide h1 h2, h.tx.wide h1 h2, h.far⟩
theorem Wb.far {W W' : World} {lo hi lo' hi' : Nat} {v u : Value} {l k : List UInt8} (h : Wb W lo hi v l) (h' : Wb W' lo' hi' u k) (hd : hi ≤ lo' ∨ hi' ≤ lo) : Far v u := fun g h1 h2 => by
  have a := h.up h1
  have b := h'.up h2
  omega
/-- a text, then edits -/
theorem Efm.two {W W' : World} {lo mi hi : Nat} {v tv : Value} {F : List Er} {T : List UInt8} (h1 : Wb W lo mi tv T) (hb : Below W.heap.size W W') (h2 : Eds W' mi hi v F) (hlm : lo ≤ mi) (hmh : mi ≤ hi) : Efm W' lo hi v F tv T :=
  ⟨h2.wide hlm (Nat.le_refl _), (h1.keep hb).wide (Nat.le_refl _) hmh, fun k x hk => h1.far (h2.tx k x hk) (.inl (Nat.le_refl _))⟩
theorem Efm.bare {W : World} {lo hi : Nat} {v : Value} {F : List Er} (h : Eds W lo hi v F) : Efm W lo hi v F (.slice none 0 0) [] := ⟨h, Wb.nil _ _ _, fun k x _ g hg => by cases hg⟩
theorem Efm.grown {W W' : World} {lo hi B : Nat} {v tv : Value} {F : List Er} {T : List UInt8} (h : Efm W lo hi v F tv T) (hg : W.grownBy W' (some B)) (hB : B < lo ∨ hi ≤ B) : Efm W' lo hi v F tv T := ⟨h.eds.grown hg hB, h.tx.grown hg hB, h.far⟩
/-- a call that answers an effect -/
def EfQ (x : Ef) (z : Int) (w : World) (e : Ending) (w' : World) : Prop := ∃ v F tv, e = .returned (.tuple #[efV v tv x, .int .i64 z]) ∧ F.map Er.d = x.es ∧ Efm w' w.heap.size w'.heap.size v F tv x.txt ∧ Below w.heap.size w w'
def efz : Value := .agg #[.slice none 0 0, .int .i64 0, .bool false, .bool false, .slice none 0 0, .int .i64 0, .bool false]
theorem EfQ.no {z : Int} {w w' : World} (hb : Below w.heap.size w w') : EfQ ef0 z w (.returned (.tuple #[efz, .int .i64 z])) w' := ⟨.slice none 0 0, [], .slice none 0 0, rfl, rfl, Efm.bare (Eds.nil _ _ _), hb⟩
/-- the edit that swap makes -/
def sw (l : List UInt8) (f t : Nat) (X : List UInt8) : List Ed := if sl l f t = X then [] else [⟨(f : Int), sl l f t, X⟩]
/-- a call that answers edits of its own, some of their texts made since the world w0 -/
def EsP (D : List Ed) (w0 : World) (e : Ending) (w' : World) : Prop := ∃ v F, e = .returned v ∧ F.map Er.d = D ∧ Eds w' w0.heap.size w'.heap.size v F ∧ Below w0.heap.size w0 w'
end Go.Proofs.YtppefcnopkmhbaaGreatDoor

namespace Go.Proofs.YtppefcnopkmhbaaGreatDoor
open Go.RowKit

set_option maxRecDepth 8000
theorem beq_of {a b : List UInt8} {z : Bool} (h : (a == b) = z) : (a = b ∧ z = true) ∨ (a ≠ b ∧ z = false) := by
  cases z with
  | true => exact .inl ⟨eq_of_beq h, rfl⟩
  | false => exact .inr ⟨fun e => by subst e; simp at h, rfl⟩
theorem sl_lh' {w : World} {ua : Option Addr} {n c a b : Nat} {u : List UInt8} (h : Tx w ua n c u) (h1 : a ≤ b) (h2 : b ≤ n) : ∃ a' c', (∀ W, (Instr.sliceAt 22 (.slice ua n c) (some (.int .i64 (a : Int))) (some (.int .i64 (b : Int))) none).run Tryz.prog W = .ok (.slice a' (b - a) c') W) ∧ Tx w a' (b - a) c' (sl u a b) := by
  obtain ⟨a', c', h3, h4⟩ := sl_lh h (lo := a) (m := b - a) (by omega)
  rw [show (a : Int) + ((b - a : Nat) : Int) = (b : Int) by omega] at h3
  exact ⟨a', c', h3, h4⟩
set_option maxHeartbeats 4000000 in
theorem swap_any (w0 : World) (ao : Option Addr) (n c f t : Nat) (l : List UInt8) (xp : Option Addr) (xn xc : Nat) (X : List UInt8) (w : World) (HT : Hid (Tx w ao n c l)) (hft : f ≤ t) (ht : t ≤ n) (hn : n ≤ 140737488355328) (hB : Hid (Below w0.heap.size w0 w)) (HX : Hid (Wb w w0.heap.size w.heap.size (.slice xp xn xc) X)) (hX : X.length ≤ 140737488355328) :
    Calls Tryz.prog 83 #[.slice ao n c, .int .i64 (f : Int), .int .i64 (t : Int), .slice xp xn xc] w fun e w' => EsP (sw l f t X) w0 e w' := by
  have hlen := HT.out.len
  obtain ⟨a3, c3, hs3, hT3⟩ := sl_lh' HT.out hft ht
  have hXl : xn = X.length := by obtain ⟨_, _, e⟩ := HX.out.shape; simp at e; exact e.2.1
  subst hXl
  have hTX := HX.out.tx (by omega)
  have C1 := equal_any a3 (t - f) c3 (sl l f t) xp X.length xc X w hT3 hTX
  have hsl : (sl l f t).length = t - f := sl_len (by omega)
  have h1 : (0 : Int) ≤ (f : Int) := by omega
  have h2 : (f : Int) ≤ (t : Int) := by omega
  have h3 : (t : Int) ≤ (n : Int) := by omega
  have hcap := HT.out.cap
  have h4 : (t : Int) ≤ (c : Int) := by omega
  unfold sw
  rcases beq_of (rfl : (sl l f t == X) = _) with ⟨e, he⟩ | ⟨e, he⟩
  · rw [if_pos e]
    rw [he] at C1
    have C := Hid.mk' C1
    clear C1 he hTX hT3 HX HT
    go_enter Tryz.func83, Tryz.ntmps83
    go_wp2_with (first | (go_at_call 79; refine C.out.mono ?_; rintro e w' ⟨rfl, hw⟩; subst hw) | fail)
    go_ret
    exact ⟨.slice none 0 0, [], rfl, rfl, Eds.nil _ _ _, hB.out⟩
  · rw [if_neg e]
    rw [he] at C1
    have C := Hid.mk' C1
    have C2 := Hid.mk' (cloneW_any a3 (t - f) c3 (sl l f t) w (by omega) hT3)
    have HSL := Hid.mk' hsl
    have HNE := Hid.mk' e
    have HF := Hid.mk' (show (sl l f t).length ≤ 140737488355328 by omega)
    clear C1 he hTX hT3 HT hsl e hlen
    go_enter Tryz.func83, Tryz.ntmps83
    go_wp2_with (first | (go_at_call 79; refine C.out.mono ?_; rintro e w' ⟨rfl, hw⟩; have hq := hw.symm; subst hq; clear hw) | (go_at_call 46; refine C2.out.mono ?_; rintro e w2 ⟨v2, rfl, hW2, hB2⟩; have O2 := Hid.mk' hW2; have B2 := Hid.mk' hB2; obtain ⟨p2, c2, rfl⟩ := hW2.shape; clear hW2 hB2) | fail)
    go_ret
    have O9 := O2.out
    have hb3 := bAlloc (Below.refl w2.heap.size w2) (.cells #[.int .i64 (f : Int), .slice p2 (sl l f t).length c2, .slice xp X.length xc] 65)
    have hs2 := B2.out.size
    have hs0 := hB.out.size
    refine ⟨_, [⟨(f : Int), p2, (sl l f t).length, c2, sl l f t, xp, X.length, xc, X⟩], rfl, rfl, ?_, bT hB.out (bT B2.out hb3)⟩
    rw [World.size_alloc]
    exact Eds.one (lo := w0.heap.size) (hi := w2.heap.size) (O9.wide hs0 (Nat.le_refl _)) ((HX.out.keep B2.out).wide (Nat.le_refl _) hs2) ((O9.far HX.out (.inr (Nat.le_refl _)))) HF.out hX (Nat.le_refl _) (Nat.le_trans hs0 hs2) hb3 (Blk.new w2 65 _)
/-- Apply, either way -/
def apU (T : List UInt8) (D : List Ed) : List UInt8 := (app T D).getD []
def apE (T : List UInt8) (D : List Ed) : Int := if (app T D).isSome then 0 else 170
def TxQ (U : List UInt8) (z : Int) (w : World) (e : Ending) (w' : World) : Prop := ∃ v, e = .returned (.tuple #[v, .int .i64 z]) ∧ w'.ownsRow w.heap.size 5 1 v U.length (bv U) ∧ Below w.heap.size w w'
theorem apply_q (ao : Option Addr) (n c : Nat) (T : List UInt8) (eo : Option Addr) (en ec : Nat) (E : List Er) (w : World) (hT : Hid (Tx w ao n c T)) (hb : n ≤ 140737488355328) (HE : Hid (Edz w eo E)) (hn : E.length = en) (heb : en ≤ 140737488355328) {D : List Ed} (hD : E.map Er.d = D) (HM : Mod T D) : Calls Tryz.prog 58 #[.slice ao n c, .slice eo en ec] w fun e w' => TxQ (apU T D) (apE T D) w e w' := by
  subst hD
  refine (apply_any ao n c T eo en ec E w hT hb HE hn heb HM).mono ?_
  rintro e w' (⟨U, v, h1, rfl, h2, h3⟩ | ⟨h1, rfl, h3⟩)
  · exact ⟨v, by unfold apE; rw [h1]; rfl, by unfold apU; rw [h1]; exact h2, h3⟩
  · exact ⟨.slice none 0 0, by unfold apE; rw [h1]; rfl, by unfold apU; rw [h1]; exact ⟨rfl, .inl ⟨rfl, rfl⟩⟩, h3⟩
theorem apU_le {T : List UInt8} {D : List Ed} (h : Mod T D) : (apU T D).length ≤ 140737488355328 := by
  unfold apU
  cases hz : app T D with
  | none => simp
  | some U => exact h D.length U (by rw [List.take_length]; exact hz)
/-- the first byte that isn't blank of a line of the text behind the edits, or of its last line -/
def fbh (l : List UInt8) (D : List Ed) (i : Nat) : Int := (aFirst (apU l D) (min (i : Int) (nl (apU l D) : Int))).1
set_option maxHeartbeats 2000000 in
theorem firstBehind_any (ao : Option Addr) (n c : Nat) (l : List UInt8) (eo : Option Addr) (en ec i : Nat) (E : List Er) (w : World) (HT : Hid (Tx w ao n c l)) (hb : n ≤ 140737488355328) (HE : Hid (Edz w eo E)) (hn : E.length = en) (heb : en ≤ 140737488355328) {D : List Ed} (hD : E.map Er.d = D) (HM : Hid (Mod l D)) (hi : (i : Int) ≤ 9223372036854775807) :
    Calls Tryz.prog 84 #[.slice ao n c, .slice eo en ec, .int .i64 (i : Int)] w fun e w' => e = .returned (.int .i64 (fbh l D i)) ∧ Below w.heap.size w w' := by
  have C1 := Hid.mk' (apply_q ao n c l eo en ec E w HT hb HE hn heb hD HM.out)
  have hul := apU_le HM.out
  have HUL := Hid.mk' hul
  have HFB : Hid (fbh l D i = (aFirst (apU l D) (min (i : Int) (nl (apU l D) : Int))).1) := rfl
  generalize fbh l D i = r at *
  generalize apU l D = U at *
  generalize apE l D = z at *
  have hnl := nl_le U
  obtain ⟨m, hm⟩ : ∃ m : Nat, min (i : Int) (nl U : Int) = (m : Int) := ⟨min i (nl U), by omega⟩
  have HM2 := Hid.mk' hm
  rw [hm] at HFB
  have hmn : min (i : Int) ((nl U : Nat) : Int) = (m : Int) := hm
  have hw1 : wrap64 (nl U : Int) = (nl U : Int) := by unfold wrap64; omega
  have hmle : (m : Int) ≤ 9223372036854775807 := by omega
  have C3 : Hid (∀ W ao' c', Tx W ao' U.length c' U → Calls Tryz.prog 93 #[.slice ao' U.length c', .int .i64 (m : Int)] W fun e w' => ∃ q : Int, e = .returned (.tuple #[.int .i64 r, .int .i64 q]) ∧ w' = W) := fun W ao' c' h => by
    refine (lfirst_any ao' U.length c' m U W hmle h).mono ?_
    rintro e w' ⟨rfl, rfl⟩
    exact ⟨(aFirst U (m : Int)).2, by unfold pr; rw [HFB.out], rfl⟩
  have C2 : Hid (∀ W ao' c', Tx W ao' U.length c' U → Calls Tryz.prog 90 #[.slice ao' U.length c'] W fun e w' => e = .returned (.int .i64 ((nl U : Int) + 1)) ∧ Below W.heap.size W w') := fun W ao' c' h => count_any ao' U.length c' U W h
  clear HT HE HM hD hm hn HFB hul
  go_enter Tryz.func84, Tryz.ntmps84
  go_wp2_with fail
  refine C1.out.mono ?_
  rintro e w1 ⟨v, rfl, hO, hB1⟩
  obtain ⟨uo, uc, rfl, hTU⟩ := own_tx hO (by have := HUL.out; omega)
  have KT := Hid.mk' hTU
  have B1 := Hid.mk' hB1
  clear hO hTU hB1 C1
  dsimp only
  go_wp2_with fail
  refine (C2.out w1 uo uc KT.out).mono ?_
  rintro e w2 ⟨rfl, hB2⟩
  have B2 := Hid.mk' (bT B1.out hB2)
  have KT2 := Hid.mk' (KT.out.keep hB2)
  clear hB2 C2 KT B1
  dsimp only
  go_wp2_with fail
  refine (C3.out w2 uo uc KT2.out).mono ?_
  rintro e w3 ⟨q, rfl, hw3⟩
  have hq := hw3.symm
  subst hq
  clear hw3 C3
  dsimp only
  go_wp2
  go_ret
  exact ⟨rfl, B2.out⟩
end Go.Proofs.YtppefcnopkmhbaaGreatDoor

namespace Go.Proofs.YtppefcnopkmhbaaGreatDoor
open Go.RowKit

set_option maxRecDepth 8000
/-- is the range of these lines this one -/
def isW (l : List UInt8) (a b F T : Int) (L D : Bool) : Bool := ((wh l a b).E == 0) && (((wh l a b).F == F) && (((wh l a b).T == T) && (((wh l a b).L == L) && ((wh l a b).D == D))))
set_option maxHeartbeats 2000000 in
theorem isWhole_any (ao : Option Addr) (n c : Nat) (a b F T : Int) (L D : Bool) (l : List UInt8) (w : World) (ha : a ≤ 9223372036854775807) (hb : b ≤ 9223372036854775807) (HT : Hid (Tx w ao n c l)) :
    Calls Tryz.prog 78 #[.slice ao n c, .int .i64 a, .int .i64 b, .agg #[.int .i64 F, .int .i64 T, .bool L, .bool D]] w fun e w' => e = .returned (.bool (isW l a b F T L D)) ∧ Below w.heap.size w w' := by
  obtain ⟨W1, hW1⟩ : ∃ x, w.alloc (.cells #[.int .i64 F, .int .i64 T, .bool L, .bool D] 28) = x := ⟨_, rfl⟩
  have K1 : Hid (Blk W1 w.heap.size 28 #[.int .i64 F, .int .i64 T, .bool L, .bool D]) := by unfold Hid; rw [← hW1]; exact Blk.new w 28 _
  have L1 : Hid (Below w.heap.size w W1) := by unfold Hid; rw [← hW1]; exact bAlloc (Below.refl _ _) _
  have C1 := whole_any ao n c a b l W1 ha hb (HT.out.keep L1.out)
  unfold isW
  generalize wh l a b = r at *
  obtain ⟨rF, rT, rL, rD, rE⟩ := r
  unfold rt at C1
  dsimp only at C1 ⊢
  have C := Hid.mk' C1
  obtain ⟨B, hB⟩ : ∃ b, w.heap.size = b := ⟨_, rfl⟩
  have HB := Hid.mk' hB
  rw [hB] at K1
  clear C1 HT
  go_enter Tryz.func78, Tryz.ntmps78
  go_upto_region 1 with fail
  clear hW1 hB
  go_wp2_with fail
  refine C.out.mono ?_
  rintro e w1 ⟨rfl, hb1⟩
  have K2 := Hid.mk' (K1.out.keep hb1)
  have L2 := Hid.mk' (bT L1.out hb1)
  clear hb1 C K1 L1
  dsimp only
  obtain ⟨W3, hW3⟩ : ∃ x, w1.alloc (.cells #[.int .i64 rF, .int .i64 rT, .bool rL, .bool rD] 28) = x := ⟨_, rfl⟩
  obtain ⟨Q, hQ⟩ : ∃ q, w1.heap.size = q := ⟨_, rfl⟩
  have hb3 : Below w1.heap.size w1 W3 := by rw [← hW3]; exact bAlloc (Below.refl _ _) _
  have K3 := Hid.mk' (K2.out.keep hb3)
  have J3 : Hid (Blk W3 Q 28 #[.int .i64 rF, .int .i64 rT, .bool rL, .bool rD]) := by unfold Hid; rw [← hW3, ← hQ]; exact Blk.new w1 28 _
  have L3 := Hid.mk' (bT L2.out hb3)
  clear hb3 K2 L2
  go_upto_region 2 with fail
  clear hW3 hQ
  have k0 : W3.cell? ⟨B, 0, none⟩ = some (.int .i64 F) := K3.out.cell rfl
  have k1 : W3.cell? ⟨B, 1, none⟩ = some (.int .i64 T) := K3.out.cell rfl
  have k2 : W3.cell? ⟨B, 2, none⟩ = some (.bool L) := K3.out.cell rfl
  have k3 : W3.cell? ⟨B, 3, none⟩ = some (.bool D) := K3.out.cell rfl
  have j0 : W3.cell? ⟨Q, 0, none⟩ = some (.int .i64 rF) := J3.out.cell rfl
  have j1 : W3.cell? ⟨Q, 1, none⟩ = some (.int .i64 rT) := J3.out.cell rfl
  have j2 : W3.cell? ⟨Q, 2, none⟩ = some (.bool rL) := J3.out.cell rfl
  have j3 : W3.cell? ⟨Q, 3, none⟩ = some (.bool rD) := J3.out.cell rfl
  by_cases hE : rE = 0
  · subst hE
    go_wp2_with fail
    all_goals
      go_ret
      exact ⟨by simp_all, L3.out⟩
  · have hE' : (rE == 0) = false := by simp; exact hE
    go_wp2_with fail
    go_ret
    exact ⟨by rw [hE']; rfl, L3.out⟩

/-- a range's lines; false: it isn't right -/
def lnO (l : List UInt8) (at' : Nat) (F T : Int) (L D : Bool) : Int × Int × Bool :=
  if F < 0 ∨ T < F ∨ (l.length : Int) < T then (0, 0, false)
  else if L = false then ((nl (l.take F.toNat) : Int), (nl (l.take (max F (T - 1)).toNat) : Int), true)
  else
    let a : Int := (nl (l.take F.toNat) : Int) + if D then 1 else 0
    let b : Int := (nl (l.take T.toNat) : Int)
    if isW l a (b - 1) F T L D && (!isW l a b F T L D || decide ((nl (l.take at') : Int) < b)) then (a, b - 1, true) else (a, b, isW l a b F T L D)
def lnV (x : Int × Int × Bool) : Value := .tuple #[.int .i64 x.1, .int .i64 x.2.1, .bool x.2.2]
theorem lof_at' {ao : Option Addr} {n c k : Nat} {l : List UInt8} {w : World} (hk : k ≤ n) (HT : Hid (Tx w ao n c l)) :
    Calls Tryz.prog 77 #[.slice ao n c, .int .i64 (k : Int)] w fun e w' => e = .returned (.tuple #[.int .i64 (nl (l.take k) : Int), .int .i64 0]) ∧ Below w.heap.size w w' := by
  have h := lof_any ao n c (k : Int) l w HT
  have e : aOf l (k : Int) = ((nl (l.take k) : Int), 0) := by
    unfold aOf ans plB
    rw [decide_eq_true (show (0 : Int) ≤ (k : Int) ∧ (k : Int) ≤ (l.length : Int) by have := HT.out.len; omega), if_pos rfl]
    rfl
  rw [e] at h
  exact h
set_option maxHeartbeats 2000000 in
theorem linesOf_no (ao : Option Addr) (n c : Nat) (at' : Int) (F T : Int) (L D : Bool) (w : World) (h : F < 0 ∨ T < F ∨ (n : Int) < T) :
    Calls Tryz.prog 38 #[.slice ao n c, .int .i64 at', .agg #[.int .i64 F, .int .i64 T, .bool L, .bool D]] w fun e w' => e = .returned (lnV (0, 0, false)) ∧ Below w.heap.size w w' := by
  by_cases h1 : F < 0
  · go_enter Tryz.func38, Tryz.ntmps38
    go_wp2_with fail
    exact bodyPost_ret (v := .tuple #[.int .i64 0, .int .i64 0, .bool false]) (by simp [results, Tryz.results38]) rfl ⟨rfl, bAlloc (Below.refl _ _) _⟩
  · by_cases h2 : T < F
    · go_enter Tryz.func38, Tryz.ntmps38
      go_wp2_with fail
      exact bodyPost_ret (v := .tuple #[.int .i64 0, .int .i64 0, .bool false]) (by simp [results, Tryz.results38]) rfl ⟨rfl, bAlloc (Below.refl _ _) _⟩
    · have h3 : (n : Int) < T := by omega
      go_enter Tryz.func38, Tryz.ntmps38
      go_wp2_with fail
      exact bodyPost_ret (v := .tuple #[.int .i64 0, .int .i64 0, .bool false]) (by simp [results, Tryz.results38]) rfl ⟨rfl, bAlloc (Below.refl _ _) _⟩

theorem wrapA {x : Int} (h1 : -9223372036854775808 ≤ x) (h2 : x ≤ 9223372036854775807) : IntKind.i64.wrap x = x := by rw [IntKind.wrap_i64]; omega
theorem wrapB {x : Int} (h1 : -9223372036854775808 ≤ x) (h2 : x ≤ 9223372036854775807) : wrap64 x = x := by unfold wrap64; omega
theorem ite_lnV (p q : Bool) (x : Prop) [Decidable x] (a b : Int) : (if (p && (!q || decide x)) = true then (a, b - 1, true) else (a, b, q)) = if p = true ∧ (q = false ∨ x) then (a, b - 1, true) else (a, b, q) := by
  cases p <;> cases q <;> by_cases h : x <;> simp [h]
set_option maxHeartbeats 4000000 in
theorem linesOf_L (ao : Option Addr) (n c k f t : Nat) (D : Bool) (l : List UInt8) (w : World) (HT : Hid (Tx w ao n c l)) (hk : k ≤ n) (hft : f ≤ t) (ht : t ≤ n) :
    Calls Tryz.prog 38 #[.slice ao n c, .int .i64 (k : Int), .agg #[.int .i64 (f : Int), .int .i64 (t : Int), .bool true, .bool D]] w fun e w' => e = .returned (lnV (lnO l k (f : Int) (t : Int) true D)) ∧ Below w.heap.size w w' := by
  have hlen := HT.out.len
  have hbig := HT.out.big
  obtain ⟨W1, hW1⟩ : ∃ x, w.alloc (.cells #[.int .i64 (f : Int), .int .i64 (t : Int), .bool true, .bool D] 28) = x := ⟨_, rfl⟩
  have K1 : Hid (Blk W1 w.heap.size 28 #[.int .i64 (f : Int), .int .i64 (t : Int), .bool true, .bool D]) := by unfold Hid; rw [← hW1]; exact Blk.new w 28 _
  have L1 : Hid (Below w.heap.size w W1) := by unfold Hid; rw [← hW1]; exact bAlloc (Below.refl _ _) _
  have HT1 := Hid.mk' (HT.out.keep L1.out)
  have COf : Hid (∀ j, j ≤ n → ∀ W, Below W1.heap.size W1 W → Calls Tryz.prog 77 #[.slice ao n c, .int .i64 (j : Int)] W fun e w' => e = .returned (.tuple #[.int .i64 (nl (l.take j) : Int), .int .i64 0]) ∧ Below W.heap.size W w') := fun j hj W hW => lof_at' hj (HT1.out.keep hW)
  have CW : Hid (∀ a b : Int, a ≤ 9223372036854775807 → b ≤ 9223372036854775807 → ∀ W, Below W1.heap.size W1 W → Calls Tryz.prog 78 #[.slice ao n c, .int .i64 a, .int .i64 b, .agg #[.int .i64 (f : Int), .int .i64 (t : Int), .bool true, .bool D]] W fun e w' => e = .returned (.bool (isW l a b (f : Int) (t : Int) true D)) ∧ Below W.heap.size W w') := fun a b ha hb W hW => isWhole_any ao n c a b _ _ _ _ l W ha hb (HT1.out.keep hW)
  have hx : lnO l k (f : Int) (t : Int) true D = if (isW l ((nl (l.take f) : Int) + if D then 1 else 0) ((nl (l.take t) : Int) - 1) (f : Int) (t : Int) true D && (!isW l ((nl (l.take f) : Int) + if D then 1 else 0) ((nl (l.take t) : Int)) (f : Int) (t : Int) true D || decide ((nl (l.take k) : Int) < (nl (l.take t) : Int)))) = true then ((nl (l.take f) : Int) + (if D then 1 else 0), (nl (l.take t) : Int) - 1, true) else ((nl (l.take f) : Int) + (if D then 1 else 0), (nl (l.take t) : Int), isW l ((nl (l.take f) : Int) + if D then 1 else 0) ((nl (l.take t) : Int)) (f : Int) (t : Int) true D) := by
    unfold lnO
    rw [if_neg (by omega), if_neg (by decide)]
    simp only [Int.toNat_natCast]
  rw [hx, ite_lnV]
  have hn1 : nl (l.take f) ≤ n := by have := nl_take_le l f; have := nl_le l; omega
  have hn2 : nl (l.take t) ≤ n := by have := nl_take_le l t; have := nl_le l; omega
  have C1 := COf.out f (by omega) W1 (Below.refl _ _)
  have C2 := Hid.mk' (COf.out t ht)
  have C3 := Hid.mk' (COf.out k hk)
  generalize nl (l.take f) = x at *
  generalize nl (l.take t) = y at *
  generalize nl (l.take k) = z at *
  obtain ⟨a, ha⟩ : ∃ a : Nat, (x : Int) + (if D then 1 else 0) = (a : Int) := ⟨x + (if D then 1 else 0), by cases D <;> simp⟩
  have ha1 : (a : Int) ≤ n + 1 := by rw [← ha]; cases D <;> simp <;> omega
  rw [ha]
  have C4 := Hid.mk' (CW.out (a : Int) (y : Int) (by omega) (by omega))
  have C5 := Hid.mk' (CW.out (a : Int) ((y : Int) - 1) (by omega) (by omega))
  generalize isW l (a : Int) (y : Int) (f : Int) (t : Int) true D = q at *
  generalize isW l (a : Int) ((y : Int) - 1) (f : Int) (t : Int) true D = p at *
  obtain ⟨B, hB⟩ : ∃ b, w.heap.size = b := ⟨_, rfl⟩
  have HB := Hid.mk' hB
  rw [hB] at K1
  have h1 : ¬ ((f : Int) < 0) := by omega
  have h2 : ¬ ((t : Int) < (f : Int)) := by omega
  have h3 : ¬ ((n : Int) < (t : Int)) := by omega
  have hwy : wrap64 ((y : Int) - 1) = (y : Int) - 1 := wrapB (by omega) (by omega)
  have hwy' : IntKind.i64.wrap ((y : Int) - 1) = (y : Int) - 1 := wrapA (by omega) (by omega)
  have HA := Hid.mk' ha
  have C1' := Hid.mk' C1
  obtain ⟨u, hu⟩ : ∃ u, (if p = true ∧ (q = false ∨ (z : Int) < (y : Int)) then ((a : Int), (y : Int) - 1, true) else ((a : Int), (y : Int), q)) = u := ⟨_, rfl⟩
  rw [hu]
  have HU := Hid.mk' hu
  clear hu
  clear hx C1 COf CW HT HT1 hft ht hk hlen ha
  go_enter Tryz.func38, Tryz.ntmps38
  go_upto_region 1 with fail
  clear hW1 hB
  have k0 : W1.cell? ⟨B, 0, none⟩ = some (.int .i64 (f : Int)) := K1.out.cell rfl
  have k1 : W1.cell? ⟨B, 1, none⟩ = some (.int .i64 (t : Int)) := K1.out.cell rfl
  have k2 : W1.cell? ⟨B, 2, none⟩ = some (.bool true) := K1.out.cell rfl
  have k3 : W1.cell? ⟨B, 3, none⟩ = some (.bool D) := K1.out.cell rfl
  go_wp2_with fail
  refine C1'.out.mono ?_
  rintro e w2 ⟨rfl, hb2⟩
  have B2 := Hid.mk' hb2
  have K2 := Hid.mk' (K1.out.keep hb2)
  clear hb2 C1' k0 k1 k2 k3
  have k0 : w2.cell? ⟨B, 0, none⟩ = some (.int .i64 (f : Int)) := K2.out.cell rfl
  have k1 : w2.cell? ⟨B, 1, none⟩ = some (.int .i64 (t : Int)) := K2.out.cell rfl
  have k2 : w2.cell? ⟨B, 2, none⟩ = some (.bool true) := K2.out.cell rfl
  have k3 : w2.cell? ⟨B, 3, none⟩ = some (.bool D) := K2.out.cell rfl
  dsimp only
  go_upto_if 53 with fail
  go_cut [6] from 54 to 55 (fun x6 wx => x6 = .int .i64 (a : Int) ∧ wx = w2)
  case first =>
    cases D with
    | true =>
      have ha2 : (x : Int) + 1 = (a : Int) := HA.out
      have hwa : IntKind.i64.wrap (a : Int) = (a : Int) := wrapA (by omega) (by omega)
      have hwa' : wrap64 (a : Int) = (a : Int) := wrapB (by omega) (by omega)
      go_wp2_with fail
      go_meet
      exact ⟨rfl, rfl⟩
    | false =>
      have ha2 : x = a := by have h : (x : Int) + 0 = (a : Int) := HA.out; omega
      subst ha2
      go_wp2_with fail
      go_meet
      exact ⟨rfl, rfl⟩
  case rest =>
    obtain ⟨rfl, rfl⟩ := hcut
    go_wp2_with fail
    refine (C2.out _ B2.out).mono ?_
    rintro e w3 ⟨rfl, hb3⟩
    have B3 := Hid.mk' (bT B2.out hb3)
    have K3 := Hid.mk' (K2.out.keep hb3)
    clear hb3 C2 K2 k0 k1 k2 k3 B2
    dsimp only
    go_wp2_with fail
    refine (C3.out w3 B3.out).mono ?_
    rintro e w4 ⟨rfl, hb4⟩
    have B4 := Hid.mk' (bT B3.out hb4)
    have K4 := Hid.mk' (K3.out.keep hb4)
    clear hb4 C3 K3 B3
    have k0 : w4.cell? ⟨B, 0, none⟩ = some (.int .i64 (f : Int)) := K4.out.cell rfl
    have k1 : w4.cell? ⟨B, 1, none⟩ = some (.int .i64 (t : Int)) := K4.out.cell rfl
    have k2 : w4.cell? ⟨B, 2, none⟩ = some (.bool true) := K4.out.cell rfl
    have k3 : w4.cell? ⟨B, 3, none⟩ = some (.bool D) := K4.out.cell rfl
    dsimp only
    go_wp2_with fail
    refine (C4.out w4 B4.out).mono ?_
    rintro e w5 ⟨rfl, hb5⟩
    have B5 := Hid.mk' (bT B4.out hb5)
    have K5 := Hid.mk' (K4.out.keep hb5)
    clear hb5 C4 K4 B4 k0 k1 k2 k3
    have k0 : w5.cell? ⟨B, 0, none⟩ = some (.int .i64 (f : Int)) := K5.out.cell rfl
    have k1 : w5.cell? ⟨B, 1, none⟩ = some (.int .i64 (t : Int)) := K5.out.cell rfl
    have k2 : w5.cell? ⟨B, 2, none⟩ = some (.bool true) := K5.out.cell rfl
    have k3 : w5.cell? ⟨B, 3, none⟩ = some (.bool D) := K5.out.cell rfl
    dsimp only
    go_wp2_with fail
    refine (C5.out w5 B5.out).mono ?_
    rintro e w6 ⟨rfl, hb6⟩
    have B6 := Hid.mk' (bT L1.out (bT B5.out hb6))
    clear hb6 C5 K5 B5 k0 k1 k2 k3
    dsimp only
    cases p with
    | false =>
      have e := HU.out
      rw [if_neg (by simp)] at e
      subst e
      go_wp2_with fail
      exact bodyPost_ret (v := .tuple #[.int .i64 (a : Int), .int .i64 (y : Int), .bool q]) (by simp [results, Tryz.results38]) rfl ⟨rfl, B6.out⟩
    | true =>
      cases q with
      | false =>
        have e := HU.out
        rw [if_pos ⟨rfl, .inl rfl⟩] at e
        subst e
        go_wp2_with fail
        exact bodyPost_ret (v := .tuple #[.int .i64 (a : Int), .int .i64 ((y : Int) - 1), .bool true]) (by simp [results, Tryz.results38]) rfl ⟨rfl, B6.out⟩
      | true =>
        by_cases hzy : (z : Int) < (y : Int)
        · skip
          have e := HU.out
          rw [if_pos ⟨rfl, .inr hzy⟩] at e
          subst e
          go_wp2_with fail
          exact bodyPost_ret (v := .tuple #[.int .i64 (a : Int), .int .i64 ((y : Int) - 1), .bool true]) (by simp [results, Tryz.results38]) rfl ⟨rfl, B6.out⟩
        · skip
          have e := HU.out
          rw [if_neg (by rintro ⟨_, h | h⟩; cases h; exact hzy h)] at e
          subst e
          go_wp2_with fail
          exact bodyPost_ret (v := .tuple #[.int .i64 (a : Int), .int .i64 (y : Int), .bool true]) (by simp [results, Tryz.results38]) rfl ⟨rfl, B6.out⟩
set_option maxHeartbeats 4000000 in
theorem linesOf_B (ao : Option Addr) (n c k f t : Nat) (D : Bool) (l : List UInt8) (w : World) (HT : Hid (Tx w ao n c l)) (hft : f ≤ t) (ht : t ≤ n) :
    Calls Tryz.prog 38 #[.slice ao n c, .int .i64 (k : Int), .agg #[.int .i64 (f : Int), .int .i64 (t : Int), .bool false, .bool D]] w fun e w' => e = .returned (lnV (lnO l k (f : Int) (t : Int) false D)) ∧ Below w.heap.size w w' := by
  have hlen := HT.out.len
  have hbig := HT.out.big
  obtain ⟨W1, hW1⟩ : ∃ x, w.alloc (.cells #[.int .i64 (f : Int), .int .i64 (t : Int), .bool false, .bool D] 28) = x := ⟨_, rfl⟩
  have K1 : Hid (Blk W1 w.heap.size 28 #[.int .i64 (f : Int), .int .i64 (t : Int), .bool false, .bool D]) := by unfold Hid; rw [← hW1]; exact Blk.new w 28 _
  have L1 : Hid (Below w.heap.size w W1) := by unfold Hid; rw [← hW1]; exact bAlloc (Below.refl _ _) _
  have HT1 := Hid.mk' (HT.out.keep L1.out)
  have COf : Hid (∀ j, j ≤ n → ∀ W, Below W1.heap.size W1 W → Calls Tryz.prog 77 #[.slice ao n c, .int .i64 (j : Int)] W fun e w' => e = .returned (.tuple #[.int .i64 (nl (l.take j) : Int), .int .i64 0]) ∧ Below W.heap.size W w') := fun j hj W hW => lof_at' hj (HT1.out.keep hW)
  obtain ⟨m, hm⟩ : ∃ m : Nat, max (f : Int) ((t : Int) - 1) = (m : Int) := ⟨(max (f : Int) ((t : Int) - 1)).toNat, by omega⟩
  have hx : lnO l k (f : Int) (t : Int) false D = ((nl (l.take f) : Int), (nl (l.take m) : Int), true) := by
    unfold lnO
    rw [if_neg (by omega), if_pos rfl, hm]
    simp only [Int.toNat_natCast]
  rw [hx]
  have C1 := Hid.mk' (COf.out f (by omega) W1 (Below.refl _ _))
  have C2 := Hid.mk' (COf.out m (by omega))
  generalize nl (l.take f) = x at *
  generalize nl (l.take m) = y at *
  obtain ⟨B, hB⟩ : ∃ b, w.heap.size = b := ⟨_, rfl⟩
  have HB := Hid.mk' hB
  rw [hB] at K1
  have h1 : ¬ ((f : Int) < 0) := by omega
  have h2 : ¬ ((t : Int) < (f : Int)) := by omega
  have h3 : ¬ ((n : Int) < (t : Int)) := by omega
  have hwy : wrap64 ((t : Int) - 1) = (t : Int) - 1 := wrapB (by omega) (by omega)
  have hwy' : IntKind.i64.wrap ((t : Int) - 1) = (t : Int) - 1 := wrapA (by omega) (by omega)
  clear hx COf HT HT1 hft ht hlen
  go_enter Tryz.func38, Tryz.ntmps38
  go_upto_region 1 with fail
  clear hW1 hB
  have k0 : W1.cell? ⟨B, 0, none⟩ = some (.int .i64 (f : Int)) := K1.out.cell rfl
  have k1 : W1.cell? ⟨B, 1, none⟩ = some (.int .i64 (t : Int)) := K1.out.cell rfl
  have k2 : W1.cell? ⟨B, 2, none⟩ = some (.bool false) := K1.out.cell rfl
  go_wp2_with fail
  refine C1.out.mono ?_
  rintro e w2 ⟨rfl, hb2⟩
  have B2 := Hid.mk' hb2
  have K2 := Hid.mk' (K1.out.keep hb2)
  clear hb2 C1 k0 k1 k2
  have k0 : w2.cell? ⟨B, 0, none⟩ = some (.int .i64 (f : Int)) := K2.out.cell rfl
  have k1 : w2.cell? ⟨B, 1, none⟩ = some (.int .i64 (t : Int)) := K2.out.cell rfl
  have k2 : w2.cell? ⟨B, 2, none⟩ = some (.bool false) := K2.out.cell rfl
  dsimp only
  go_wp2_with fail
  refine (C2.out w2 B2.out).mono ?_
  rintro e w3 ⟨rfl, hb3⟩
  have B3 := Hid.mk' (bT L1.out (bT B2.out hb3))
  clear hb3 C2 K2 B2 k0 k1 k2
  dsimp only
  go_wp2_with fail
  exact bodyPost_ret (v := .tuple #[.int .i64 (x : Int), .int .i64 (y : Int), .bool true]) (by simp [results, Tryz.results38]) rfl ⟨rfl, B3.out⟩
theorem linesOf_any' (ao : Option Addr) (n c k : Nat) (F T : Int) (L D : Bool) (l : List UInt8) (w : World) (HT : Hid (Tx w ao n c l)) (hk : k ≤ n) :
    Calls Tryz.prog 38 #[.slice ao n c, .int .i64 (k : Int), .agg #[.int .i64 F, .int .i64 T, .bool L, .bool D]] w fun e w' => e = .returned (lnV (lnO l k F T L D)) ∧ Below w.heap.size w w' := by
  have hlen := HT.out.len
  by_cases h : F < 0 ∨ T < F ∨ (n : Int) < T
  · have e : lnO l k F T L D = (0, 0, false) := by unfold lnO; rw [hlen, if_pos h]
    rw [e]
    exact linesOf_no ao n c k F T L D w h
  · obtain ⟨f, rfl⟩ : ∃ f : Nat, F = (f : Int) := ⟨F.toNat, by omega⟩
    obtain ⟨t, rfl⟩ : ∃ t : Nat, T = (t : Int) := ⟨T.toNat, by omega⟩
    cases L with
    | true => exact linesOf_L ao n c k f t D l w HT hk (by omega) (by omega)
    | false => exact linesOf_B ao n c k f t D l w HT (by omega) (by omega)
end Go.Proofs.YtppefcnopkmhbaaGreatDoor
