/- The law's marked: it writes over a register's text, and grows it. -/
import Derived.Test.YtienamngmalkaaaPtw
namespace Go.Proofs.Ytienamngmalkaaa
open Go.RowKit

set_option maxRecDepth 8000
theorem bv_set (Y : List UInt8) (i : Nat) (x : UInt8) : (bv Y).set i (.int .u8 (x.toNat : Int)) = bv (Y.set i x) := by
  unfold bv; rw [List.map_set]
/-- what marked gives: the register's text was grown, and nothing else was touched -/
def MkP (lo : Nat) (s l : Bool) (v : Value) (n : Nat) (W : World) (e : Ending) (W' : World) : Prop :=
  ∃ a c t, e = .returned (.agg #[.bool s, .bool l, .slice a (n + 40) c]) ∧ W'.ownsRow lo 5 1 (.slice a (n + 40) c) (n + 40) (bv t) ∧ W.grownBy W' v.ownBlock ∧ ((Value.slice a (n + 40) c).ownBlock = v.ownBlock ∨ ∃ q, (Value.slice a (n + 40) c).ownBlock = some q ∧ W.heap.size ≤ q)
/-- the state within marked -/
structure Mk (lo : Nat) (s l : Bool) (r : Option Nat) (w W : World) (v : Value) (n : Nat) (Y : List UInt8) : Prop where
  box : Blk W w.heap.size 24 #[.bool s, .bool l, v]
  out : Blk W (w.heap.size + 1) 24 #[.bool false, .bool false, .slice none 0 0]
  own : W.ownsRow lo 5 1 v n (bv Y)
  grw : w.grownBy W r
  fr : v.ownBlock = r ∨ ∃ q, v.ownBlock = some q ∧ w.heap.size ≤ q
theorem grown_trans {A B C : World} {r : Option Nat} (h : A.grownBy B r) (g : B.grownBy C r) : A.grownBy C r :=
  ⟨g.os.trans h.os, g.tape.trans h.tape, g.output.trans h.output, Nat.le_trans h.size g.size, fun k hk hne => (g.block k (by have := h.size; omega) hne).trans (h.block k hk hne)⟩
theorem grown_high {A B C : World} {r q : Option Nat} (h : A.grownBy B r) (g : B.grownBy C q) (hq : ∀ k, q = some k → some k = r ∨ A.heap.size ≤ k) : A.grownBy C r :=
  ⟨g.os.trans h.os, g.tape.trans h.tape, g.output.trans h.output, Nat.le_trans h.size g.size, fun k hk hne => (g.block k (by have := h.size; omega) (fun e => by
    rcases hq k e.symm with h1 | h1
    · exact hne h1
    · omega)).trans (h.block k hk hne)⟩
theorem blk_type {W : World} {base e n B : Nat} {v : Value} {xs : List Value} {cs : Array Value} (h : W.ownsRow base 5 1 v n xs) (hB : Blk W B e cs) (he : e ≠ 5) : v.ownBlock ≠ some B := fun hv => by
  rcases h.2 with ⟨rfl, _⟩ | ⟨g, cap, cur, rfl, _, hg, _⟩
  · cases hv
  · have : g = B := by simpa [Value.ownBlock] using hv
    subst this
    unfold Blk at hB
    rw [hB] at hg
    simp at hg
    exact he hg.2
theorem Mk.keep {lo n : Nat} {s l : Bool} {r : Option Nat} {w W W' : World} {v : Value} {Y : List UInt8} (h : Mk lo s l r w W v n Y) (hb : Below W.heap.size W W') : Mk lo s l r w W' v n Y :=
  ⟨h.box.keep hb, h.out.keep hb, own_keep h.own hb, grown_high h.grw (q := none) ⟨hb.os, hb.tape, hb.output, hb.size, fun k hk _ => hb.block k hk⟩ (fun k hk => by cases hk), h.fr⟩
/-- a byte is stored -/
theorem Mk.byte {lo n g c j : Nat} {s l : Bool} {r : Option Nat} {w W : World} {Y : List UInt8} (h : Mk lo s l r w W (.slice (some ⟨g, 0, none⟩) n c) n Y) (x : UInt8) : Mk lo s l r w (W.setCell ⟨g, j, none⟩ (.int .u8 (x.toNat : Int))) (.slice (some ⟨g, 0, none⟩) n c) n (Y.set j x) := by
  obtain ⟨e1, e2⟩ := h.own.stored j (.int .u8 (x.toNat : Int))
  rw [bv_set] at e1
  refine ⟨h.box.grown e2 (blk_type h.own h.box (by decide)).symm, h.out.grown e2 (blk_type h.own h.out (by decide)).symm, e1, grown_high h.grw e2 fun k hk => ?_, h.fr⟩
  rcases h.fr with e | ⟨q, e, hq⟩
  · exact .inl (by rw [← e]; exact hk.symm)
  · have h2 : some k = some q := hk.symm.trans e
    injection h2 with h2
    exact .inr (by omega)
/-- the text is grown, and put in its place -/
theorem Mk.more {lo n m : Nat} {s l : Bool} {r : Option Nat} {w W W' : World} {v v' : Value} {Y Y' : List UInt8} (h : Mk lo s l r w W v n Y) (hg : W.grownBy W' v.ownBlock) (ho : W'.ownsRow lo 5 1 v' m (bv Y')) (hf : v'.ownBlock = v.ownBlock ∨ ∃ q, v'.ownBlock = some q ∧ W.heap.size ≤ q) :
    Mk lo s l r w (W'.setCell ⟨w.heap.size, 2, none⟩ v') v' m Y' := by
  have b1 := h.box.grown hg (blk_type h.own h.box (by decide)).symm
  have b2 := h.out.grown hg (blk_type h.own h.out (by decide)).symm
  have g1 : w.grownBy W' r := grown_high h.grw hg fun k hk => by
    rcases h.fr with e | ⟨q, e, hq⟩
    · exact .inl (by rw [← e]; exact hk.symm)
    · rw [e] at hk
      injection hk with hk
      exact .inr (by omega)
  have g2 : W'.grownBy (W'.setCell ⟨w.heap.size, 2, none⟩ v') (some w.heap.size) := ⟨rfl, rfl, rfl, by simp, fun k hk hne => Below.heap_setCell _ _ _ k (fun e => hne (by rw [e]))⟩
  refine ⟨b1.set v', b2.off (by omega) _, ho.kept g2 (.inr (blk_type ho b1 (by decide))), grown_high g1 g2 fun k hk => .inr (by injection hk with hk; omega), ?_⟩
  rcases hf with e | ⟨q, e, hq⟩
  · rcases h.fr with e2 | ⟨q, e2, hq⟩
    · exact .inl (e.trans e2)
    · exact .inr ⟨q, e.trans e2, hq⟩
  · exact .inr ⟨q, e, by have := h.grw.size; omega⟩
theorem byte_at {W : World} {base n c j : Nat} {p : Option Addr} {l : List UInt8} (h : W.ownsRow base 5 1 (.slice p n c) n (bv l)) (hj : j < n) : ∃ g, p = some ⟨g, 0, none⟩ ∧ (∃ z : Int, W.cell? ⟨g, j, none⟩ = some (.int .u8 z)) ∧ W.frozen? ⟨g, j, none⟩ = false := by
  obtain ⟨g, cap, e, _⟩ := own_some h (by omega)
  simp at e
  obtain ⟨rfl, rfl⟩ := e
  have hl := h.1
  rw [bv_length] at hl
  exact ⟨g, rfl, ⟨_, by rw [h.cellAt j (by omega)]; exact bv_at l j (by omega)⟩, h.frozenAt j⟩
set_option maxHeartbeats 8000000 in
theorem marked_any (lo : Nat) (s l : Bool) (a : Option Addr) (n c : Nat) (t : List UInt8) (x : UInt8) (w : World) (HO : Hid (w.ownsRow lo 5 1 (.slice a n c) n (bv t))) (hlo : lo ≤ w.heap.size) (hn : n ≤ 140737488355000) :
    Calls Try.prog 22 #[.agg #[.bool s, .bool l, .slice a n c], .int .u8 (x.toNat : Int)] w fun e W' => MkP lo s l (.slice a n c) n w e W' := by
  generalize hW2 : (w.alloc (.cells #[.bool s, .bool l, .slice a n c] 24)).alloc (.cells #[.bool false, .bool false, .slice none 0 0] 24) = W2
  have M0 : Hid (Mk lo s l (Value.slice a n c).ownBlock w W2 (.slice a n c) n t) := by
    subst hW2
    have hb : Below w.heap.size w ((w.alloc (.cells #[.bool s, .bool l, .slice a n c] 24)).alloc (.cells #[.bool false, .bool false, .slice none 0 0] 24)) := bAlloc (bAlloc (Below.refl _ _) _) _
    refine ⟨(Blk.new w 24 _).keep (bAlloc (Below.refl _ _) _), ?_, own_keep HO.out hb, ⟨hb.os, hb.tape, hb.output, hb.size, fun k hk _ => hb.block k hk⟩, .inl rfl⟩
    have := Blk.new (w.alloc (.cells #[.bool s, .bool l, .slice a n c] 24)) 24 #[.bool false, .bool false, .slice none 0 0]
    rwa [World.size_alloc] at this
  obtain ⟨y, hy⟩ : ∃ y : UInt8, IntKind.u8.wrap ((x.toNat : Int) + 1) = (y.toNat : Int) := by
    have h : ∀ k : Fin 256, IntKind.u8.wrap (((UInt8.ofNat k.val).toNat : Int) + 1) = (((UInt8.ofNat k.val) + 1).toNat : Int) := by decide +kernel
    have := h ⟨x.toNat, x.toNat_lt⟩
    exact ⟨x + 1, by simpa using this⟩
  obtain ⟨rb, hrb⟩ : ∃ rb, rb = (Value.slice a n c).ownBlock := ⟨_, rfl⟩
  rw [← hrb] at M0
  have HRB := Hid.mk' hrb
  clear hrb
  go_enter Try.func22, Try.ntmps22
  go_wp2_with fail
  clear hW2
  go_loopg [5] n (fun m x5 wx => ∃ (j : Nat) (Y : List UInt8), x5 = .int .i64 (j : Int) ∧ j + m = n ∧ Hid (Mk lo s l rb w wx (.slice a n c) n Y))
  case atStart => exact ⟨0, t, rfl, by omega, M0.out⟩
  case round =>
    clear M0
    obtain ⟨j, Y, rfl, hjm, MI⟩ := hrel
    obtain ⟨go, hgo⟩ : ∃ g, g = gk - 1 := ⟨_, rfl⟩
    have t2 : wr.cell? ⟨w.heap.size, 2, none⟩ = some (.slice a n c) := MI.out.box.cell rfl
    by_cases hj : j < n
    · have hj0 : (0 : Int) ≤ (j : Int) := by omega
      have hj1 : (j : Int) < (n : Int) := by omega
      have hw4 : IntKind.i64.wrap ((j : Int) + 1) = ((j + 1 : Nat) : Int) := by rw [IntKind.wrap_i64]; omega
      obtain ⟨g1, e1, ⟨z3, t3⟩, f3⟩ := byte_at MI.out.own hj
      subst e1
      have NN := Hid.mk' (MI.out.byte (j := j) x)
      clear hj
      go_wp2
      go_roundg go
      case measure => omega
      case rel => exact ⟨j + 1, _, by go_num, by omega, NN.out⟩
    · have hj1 : ¬ (j : Int) < (n : Int) := by omega
      clear hgo hjm hj
      go_wp2_with fail
      clear t2 hj1
      go_loopg [6] 40 (fun m x6 wx => ∃ (k : Nat) (p : Option Addr) (cp : Nat) (Y : List UInt8), x6 = .int .i64 (k : Int) ∧ k + m = 40 ∧ Hid (Mk lo s l rb w wx (.slice p (n + k) cp) (n + k) Y))
      case atStart => exact ⟨0, a, c, Y, rfl, by omega, MI.out⟩
      case round =>
        clear MI
        obtain ⟨k, p, cp, Y, rfl, hkm, MI⟩ := hrel
        obtain ⟨go3, hgo3⟩ : ∃ g, g = gk - 1 := ⟨_, rfl⟩
        by_cases hj : k < 40
        · have hj1 : (k : Int) < 40 := by omega
          have hw4 : IntKind.i64.wrap ((k : Int) + 1) = ((k + 1 : Nat) : Int) := by rw [IntKind.wrap_i64]; omega
          have KW : Hid (Below wr.heap.size wr (wr.alloc (.cells (bv [y]).toArray 5))) := bAlloc (Below.refl _ _) _
          have MA := Hid.mk' (MI.out.keep KW.out)
          have t2 : wr.cell? ⟨w.heap.size, 2, none⟩ = some (.slice p (n + k) cp) := MI.out.box.cell rfl
          have C5 : Hid (Srv (wr.alloc (.cells (bv [y]).toArray 5)) (.slice (some ⟨wr.heap.size, 0, none⟩) 1 1) 1 (bv [y])) := .inr ⟨_, 1, rfl, fun j u hj => lit_cells wr _ 5 j u hj⟩
          have Z5 : Hid (lo ≤ (wr.alloc (.cells (bv [y]).toArray 5)).heap.size) := Nat.le_trans hlo (Nat.le_trans MI.out.grw.size KW.out.size)
          go_wp2_with (at_builtin; refine append_big rfl (.tmp 24) (.tmp 27) rfl lo (.slice p (n + k) cp) (n + k) (bv Y) rfl MA.out.own (.slice (some ⟨wr.heap.size, 0, none⟩) 1 1) 1 (bv [y]) rfl C5.out rfl (bv_one _) (by omega) (by omega) Z5.out ?_)
          intro v1 wz hown hgrow hfr
          obtain ⟨p7, c7, rfl⟩ := own_shape hown
          have hown2 : wz.ownsRow lo 5 1 (.slice p7 (n + (k + 1)) c7) (n + (k + 1)) (bv (Y ++ [y])) := by
            have e : bv (Y ++ [y]) = bv Y ++ bv [y] := by simp [bv]
            rw [e]; exact hown
          have NN := Hid.mk' (MA.out.more hgrow hown2 (by rcases hfr with e | ⟨q, e, hq⟩; exact .inl e; exact .inr ⟨q, e, by simpa using hq⟩))
          have b1 := MA.out.box.grown hgrow (blk_type MA.out.own MA.out.box (by decide)).symm
          have t3 : wz.cell? ⟨w.heap.size, 2, none⟩ = some (.slice p (n + k) cp) := b1.cell rfl
          have f3 := b1.frozen 2
          clear hown hown2 hgrow hfr C5 Z5 MA MI t2 b1 hj KW
          go_wp2
          go_roundg go3
          case measure => omega
          case rel => exact ⟨k + 1, p7, c7, _, by go_num, by omega, NN.out⟩
        · have hj1 : ¬ (k : Int) < 40 := by omega
          obtain rfl : k = 40 := by omega
          have t0 : wr.cell? ⟨w.heap.size, 0, none⟩ = some (.bool s) := MI.out.box.cell rfl
          have t1 : wr.cell? ⟨w.heap.size, 1, none⟩ = some (.bool l) := MI.out.box.cell rfl
          have t2 : wr.cell? ⟨w.heap.size, 2, none⟩ = some (.slice p (n + 40) cp) := MI.out.box.cell rfl
          have o0 : wr.cell? ⟨w.heap.size + 1, 0, none⟩ = some (.bool false) := MI.out.out.cell rfl
          have o1 : wr.cell? ⟨w.heap.size + 1, 1, none⟩ = some (.bool false) := MI.out.out.cell rfl
          have o2 : wr.cell? ⟨w.heap.size + 1, 2, none⟩ = some (.slice none 0 0) := MI.out.out.cell rfl
          have f4 := MI.out.out.frozen
          have GB : Hid (wr.grownBy (putr wr (w.heap.size + 1) 0 s l (.slice p (n + 40) cp)) (some (w.heap.size + 1))) := ⟨rfl, rfl, rfl, by simp [putr], fun k hk hne => by
            have hk' : k ≠ w.heap.size + 1 := fun e => hne (by rw [e])
            unfold putr
            rw [Below.heap_setCell _ _ _ k hk', Below.heap_setCell _ _ _ k hk', Below.heap_setCell _ _ _ k hk']⟩
          clear hgo3 hkm hj
          have hlv := ld24 (((MI.out.out.set (j := 0) (.bool s)).set (j := 1) (.bool l)).set (j := 2) (.slice p (n + 40) cp))
          go_wp2
          refine bodyPost_ret (v := .agg #[.bool s, .bool l, .slice p (n + 40) cp]) (by simp [results, Try.results22, asAddr, hlv]) rfl ⟨p, cp, Y, rfl, MI.out.own.kept GB.out (.inr (blk_type MI.out.own MI.out.out (by decide))), ?_, ?_⟩
          · rw [← HRB.out]
            exact grown_high MI.out.grw GB.out fun k hk => .inr (by injection hk with hk; omega)
          · rw [← HRB.out]
            exact MI.out.fr
end Go.Proofs.Ytienamngmalkaaa
