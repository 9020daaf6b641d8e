/- Edi, Lst, Siz, Ape, Sw2, Ptb -/
import Derived.Test.YtppefcnopkmhbaaGreatDoorPq05
import Derived.Test.YtppefcnopkmhbaaGreatDoorPq15
namespace Go.Proofs.YtppefcnopkmhbaaGreatDoor
open Go.RowKit

set_option maxRecDepth 8000
theorem own_tx' {w : World} {base n c : Nat} {ao : Option Addr} {l : List UInt8} (h : w.ownsRow base 5 1 (.slice ao n c) n (bv l)) (hb : n ≤ 140737488355328) : Tx w ao n c l := by
  obtain ⟨ao', c', e, hT⟩ := own_tx h (by omega)
  simp at e
  obtain ⟨rfl, rfl⟩ := e
  exact hT
end Go.Proofs.YtppefcnopkmhbaaGreatDoor

namespace Go.Proofs.YtppefcnopkmhbaaGreatDoor
open Go.RowKit

set_option maxRecDepth 8000
def Er.r1 (r : Er) : Rw := ⟨5, 1, .slice r.p1 r.o r.c1, r.o, bv r.O⟩
def Er.r2 (r : Er) : Rw := ⟨5, 1, .slice r.p2 r.n r.c2, r.n, bv r.N⟩
/-- append of an edit to a list of one's own -/
theorem app_ed {w : World} (base : Nat) (v : Value) (n : Nat) (xs : List Value) (hown : w.ownsRow base 65 3 v n xs) (ad : Addr) (r : Er) (hc : ∀ j u, r.cs.toList[j]? = some u → w.cell? (ad.add j) = some u) (hb : (n + 1) * 56 ≤ 140737488355328) (hbase : base ≤ w.heap.size) :
    ∃ v' w', (∀ ty c, (Builtin.append_ #[31, 31] ty #[v, .slice (some ad) 1 c]).run Tryz.prog w = .ok v' w') ∧ w'.ownsRow base 65 3 v' (n + 1) (xs ++ r.cs.toList) ∧ w.grownBy w' v.ownBlock ∧ (v'.ownBlock = v.ownBlock ∨ ∃ q, v'.ownBlock = some q ∧ w.heap.size ≤ q) := by
  obtain ⟨i8, hi8, hz8, hs8, hb8⟩ := info_parts info38
  obtain ⟨v', w', hr, h2, h3, h4, h5⟩ := run_append_own_at (P := Tryz.prog) w base 31 31 65 i8 _ 3 56 Tryz.underlying31 hi8 hz8 hs8 hb8 rfl (by decide) v n xs hown ad 1 1 r.cs.toList (by simp [Er.cs]) hc (er_one r) (by unfold maxLen; omega) (by omega) hbase
  refine ⟨v', w', fun ty c => hr, h2, h3, ?_⟩
  rcases h5 with e | e
  · exact .inl e
  · exact .inr ⟨_, e, Nat.le_refl _⟩
end Go.Proofs.YtppefcnopkmhbaaGreatDoor

namespace Go.Proofs.YtppefcnopkmhbaaGreatDoor
open Go.RowKit

set_option maxRecDepth 8000
/-- how much longer, as a machine reckons it -/
def sz (D : List Ed) : Int := D.foldl (fun s d => IntKind.i64.wrap (s + ((d.N.length : Int) - (d.O.length : Int)))) 0
/-- the least place -/
def fst : List Ed → Int
  | [] => 0
  | d :: D => D.foldl (fun m e => min m e.a) d.a
theorem size38 (w : World) : (sizeOf 65).run Tryz.prog w = .ok 3 w := by kernel_rfl
theorem elem23 : Tryz.prog.elem 31 = 65 := by kernel_rfl
theorem und23 : Tryz.prog.underlying 31 = some (.slice (Tryz.prog.elem 31)) := by kernel_rfl
end Go.Proofs.YtppefcnopkmhbaaGreatDoor

namespace Go.Proofs.YtppefcnopkmhbaaGreatDoor
open Go.RowKit

set_option maxRecDepth 8000
theorem Wb.off {W W' : World} {lo hi : Nat} {v : Value} {l : List UInt8} {r : Option Nat} (h : Wb W lo hi v l) (hg : W.grownBy W' r) (hne : ∀ g, v.ownBlock = some g → some g ≠ r) : Wb W' lo hi v l := by
  rcases h with h | ⟨g, cap, cur, rfl, h1, h2, h3, h4⟩
  · exact .inl h
  · exact .inr ⟨g, cap, cur, rfl, h1, h2, h3.grown hg (hne g rfl), h4⟩
theorem Wb.row_far {W : World} {lo hi base e s n : Nat} {v u : Value} {l : List UInt8} {xs : List Value} (h : Wb W lo hi v l) (k : W.ownsRow base e s u n xs) (he : e ≠ 5) : ∀ g, v.ownBlock = some g → some g ≠ u.ownBlock := fun g hg hu => by
  rcases h with ⟨rfl, _⟩ | ⟨g1, cap, cur, rfl, _, _, h3, _⟩
  · cases hg
  · simp [Value.ownBlock] at hg
    subst hg
    rcases k.2 with ⟨rfl, _⟩ | ⟨g2, c2, u2, rfl, _, hg2, _⟩
    · simp [Value.ownBlock] at hu
    · simp [Value.ownBlock] at hu
      subst hu
      unfold Blk at h3
      rw [h3] at hg2
      simp at hg2
      exact he hg2.2.symm
theorem snoc2_at {α : Type} {L : List α} {x y z : α} {i : Nat} (h : (L ++ [x, y])[i]? = some z) : L[i]? = some z ∨ (i = L.length ∧ z = x) ∨ (i = L.length + 1 ∧ z = y) := by
  rcases Nat.lt_or_ge i L.length with hi | hi
  · rw [List.getElem?_append_left hi] at h; exact .inl h
  · rw [List.getElem?_append_right hi] at h
    obtain ⟨d, rfl⟩ : ∃ d, i = L.length + d := ⟨i - L.length, by omega⟩
    rw [Nat.add_sub_cancel_left] at h
    match d, h with
    | 0, h => simp at h; exact .inr (.inl ⟨rfl, h.symm⟩)
    | 1, h => simp at h; exact .inr (.inr ⟨rfl, h.symm⟩)
    | d + 2, h => simp at h
/-- one more edit -/
theorem Eds.snoc {W W' W'' : World} {lo : Nat} {v v' : Value} {F : List Er} {r : Er} (h : Eds W lo W.heap.size v F) (hb : Below W.heap.size W W') (h1 : Wb W' W.heap.size W'.heap.size (.slice r.p1 r.o r.c1) r.O) (h2 : Wb W' W.heap.size W'.heap.size (.slice r.p2 r.n r.c2) r.N) (hf : Far (.slice r.p1 r.o r.c1) (.slice r.p2 r.n r.c2)) (b1 : r.o ≤ 140737488355328) (b2 : r.n ≤ 140737488355328)
    (hg : W'.grownBy W'' v.ownBlock) (hv : W''.ownsRow lo 65 3 v' (F.length + 1) (ecs F ++ r.cs.toList)) (hlo : lo ≤ W.heap.size) : Eds W'' lo W''.heap.size v' (F ++ [r]) := by
  have hk := h.keep hb
  have hs1 := hb.size
  have hs2 := hg.size
  have ho : ∀ (k : Nat) (x : Value × List UInt8), (tes F)[k]? = some x → Wb W'' lo W''.heap.size x.1 x.2 := fun k x hx => ((hk.tx k x hx).off hg ((hk.tx k x hx).row_far hk.row (by decide))).wide (Nat.le_refl _) (by omega)
  have hn : ∀ v l, Wb W' W.heap.size W'.heap.size v l → Wb W'' lo W''.heap.size v l := fun u l hu => by
    refine ((hu.off hg ?_).wide hlo (by omega))
    exact hu.row_far hk.row (by decide)
  have hfo : ∀ (k : Nat) (x : Value × List UInt8) (u : Value) (l : List UInt8), (tes F)[k]? = some x → Wb W' W.heap.size W'.heap.size u l → Far x.1 u := fun k x u l hx hu => (h.tx k x hx).far hu (.inl (Nat.le_refl _))
  refine ⟨by rw [List.length_append, ecs_snoc]; exact hv, fun g hg' => (hv.lt g hg').2, fun k x hx => ?_, fun i j x y hij hi hj => ?_, fun s hs => ?_⟩
  · rw [tes_snoc] at hx
    rcases snoc2_at hx with e | ⟨_, rfl⟩ | ⟨_, rfl⟩
    · exact ho k x e
    · exact hn _ _ h1
    · exact hn _ _ h2
  · rw [tes_snoc] at hi hj
    rcases snoc2_at hi with e | ⟨e, rfl⟩ | ⟨e, rfl⟩ <;> rcases snoc2_at hj with e' | ⟨e', rfl⟩ | ⟨e', rfl⟩
    · exact h.far i j x y hij e e'
    · exact hfo i x _ _ e h1
    · exact hfo i x _ _ e h2
    · exact (hfo j y _ _ e' h1).symm
    · exact absurd (e.trans e'.symm) hij
    · exact hf
    · exact (hfo j y _ _ e' h2).symm
    · exact hf.symm
    · exact absurd (e.trans e'.symm) hij
  · rcases List.mem_append.1 hs with hs | hs
    · exact h.big s hs
    · simp at hs; subst hs; exact ⟨b1, b2⟩
theorem wl_ape {w : World} {ops : Array Oper} {rest : List Oper} {o : Oper} {a : Act} {Q : Exit → Act → World → Prop} (hgd : o.guard = none) (d s : Operand)
    (ho : o.op = .call { callee := .builtin .append, args := #[d, s], argTypes := #[31, 31] }) (v u : Value) (hd : a.eval d = v) (hs : a.eval s = u) {v' : Value} {w' : World}
    (hr : ∀ ty, (Builtin.append_ #[31, 31] ty #[v, u]).run Tryz.prog w = .ok v' w') (h : wpList Tryz.prog ops Q rest (a.put o.dst v') w') : wpList Tryz.prog ops Q (o :: rest) a w :=
  Lib.wpList_append_run w hgd d s 31 31 ho v u hd hs v' w' (hr _) h
theorem Edz.take {W : World} {ao : Option Addr} {F : List Er} (h : Edz W ao F) (k : Nat) : Edz W ao (F.take k) :=
  ⟨fun i r hi => h.row i r (by rw [List.getElem?_take] at hi; split at hi; exact hi; cases hi), fun i r hi => h.txs i r (by rw [List.getElem?_take] at hi; split at hi; exact hi; cases hi)⟩
/-- a slice's beginning, at any type of lists of edits -/
theorem so_he {W : World} {lo hi : Nat} {v : Value} {F : List Er} (h : Eds W lo hi v F) {z : Int} {k : Nat} (hk : k ≤ F.length) (hz : z = (k : Int)) : ∃ ao n c, v = .slice ao n c ∧ n = F.length ∧ Edz W ao F ∧ ∀ W', (Instr.sliceAt 31 (.slice ao n c) none (some (.int .i64 z)) none).run Tryz.prog W' = .ok (.slice ao k c) W' := by
  obtain ⟨ao, c, rfl, hE, hn⟩ := h.edz
  refine ⟨ao, F.length, c, rfl, rfl, hE, fun W' => ?_⟩
  have hc : F.length ≤ c := by
    rcases h.row.2 with ⟨e, h0⟩ | ⟨g, cap, cur, e, _, _, h3, _⟩
    · simp at e; omega
    · simp at e; omega
  subst hz
  rw [run_sliceAt_slice W' 31 _ _ _ _ und23, run_slice_h W' 31 ao _ c und23 .i64 (k : Int) (by omega) (by omega), elem23, size38]
  show Result.ok (sliced ao 0 (k : Int).toNat c 3) W' = _
  unfold sliced
  cases ao with
  | none => simp
  | some a => simp [Addr.add]
/-- an edit of new texts is put behind -/
theorem ape_step {w3 w6 : World} {lo : Nat} {v : Value} {F : List Er} {p1 p2 : Option Addr} {d1 d2 m : Nat} {X Y : List UInt8} (E : Eds w3 lo w3.heap.size v F) (hlo : lo ≤ w3.heap.size) (hb : Below w3.heap.size w3 w6) (h1 : Wb w6 w3.heap.size m (.slice p1 X.length d1) X) (h2 : Wb w6 m w6.heap.size (.slice p2 Y.length d2) Y) (hm : w3.heap.size ≤ m) (hm2 : m ≤ w6.heap.size) (hX : X.length ≤ 140737488355328) (hY : Y.length ≤ 140737488355328) (hF : F.length ≤ 1073741824) (A : Int) :
    ∃ v9 w9, (∀ ty, (Builtin.append_ #[31, 31] ty #[v, .slice (some ⟨w6.heap.size, 0, none⟩) 1 1]).run Tryz.prog (w6.alloc (.cells #[.int .i64 A, .slice p1 X.length d1, .slice p2 Y.length d2] 65)) = .ok v9 w9) ∧ Eds w9 lo w9.heap.size v9 (F ++ [⟨A, p1, X.length, d1, X, p2, Y.length, d2, Y⟩]) ∧ w3.heap.size ≤ w9.heap.size ∧
      (∀ (u : World) (n : Nat), n ≤ lo → Below n u w3 → Below n u w9) := by
  have hb6 : Below w3.heap.size w3 (w6.alloc (.cells #[.int .i64 A, .slice p1 X.length d1, .slice p2 Y.length d2] 65)) := bT hb (bAlloc (Below.refl _ _) _)
  have hk : Below w6.heap.size w6 (w6.alloc (.cells #[.int .i64 A, .slice p1 X.length d1, .slice p2 Y.length d2] 65)) := bAlloc (Below.refl _ _) _
  have hsz := World.size_alloc w6 (.cells #[.int .i64 A, .slice p1 X.length d1, .slice p2 Y.length d2] 65)
  obtain ⟨v9, w9, hr, ho, hg, hf⟩ := app_ed lo v F.length (ecs F) (own_keep E.row hb6) ⟨w6.heap.size, 0, none⟩ ⟨A, p1, X.length, d1, X, p2, Y.length, d2, Y⟩ (fun j u hj => lit_cells w6 _ 65 j u hj) (by omega) (Nat.le_trans hlo hb6.size)
  refine ⟨v9, w9, fun ty => hr ty 1, ?_, Nat.le_trans hb6.size hg.size, fun u n hn hu => ?_⟩
  · exact E.snoc hb6 ((h1.keep hk).wide (Nat.le_refl _) (by omega)) ((h2.keep hk).wide hm (by omega)) (h1.far h2 (.inl (Nat.le_refl _))) hX hY hg ho hlo
  · have h6 : Below n u (w6.alloc (.cells #[.int .i64 A, .slice p1 X.length d1, .slice p2 Y.length d2] 65)) := hu.trans (hb6.mono (Nat.le_trans hn hlo))
    refine h6.grown hg (Nat.le_trans hn (Nat.le_trans hlo hb6.size)) (fun g hg' => ?_)
    have := (E.row.lt g hg').1
    omega
theorem Blk.low {u w : World} {n B e : Nat} {cs : Array Value} (h : Blk u B e cs) (hb : Below n u w) (hB : B < n) : Blk w B e cs := by unfold Blk; rw [hb.block B hB]; exact h
end Go.Proofs.YtppefcnopkmhbaaGreatDoor

namespace Go.Proofs.YtppefcnopkmhbaaGreatDoor
open Go.RowKit

set_option maxRecDepth 8000
set_option maxHeartbeats 4000000 in
theorem swap_two (w0 : World) (ao : Option Addr) (n c f t : Nat) (l : List UInt8) (xp : Option Addr) (xn xc : Nat) (X : List UInt8) (w : World) (HT : Hid (Tx w ao n c l)) (hft : f ≤ t) (ht : t ≤ n) (hn : n ≤ 140737488355328) (hB : Hid (Below w0.heap.size w0 w)) (HX : Hid (Wb w w0.heap.size w.heap.size (.slice xp xn xc) X)) (hX : X.length ≤ 140737488355328) :
    Calls Tryz.prog 83 #[.slice ao n c, .int .i64 (f : Int), .int .i64 (t : Int), .slice xp xn xc] w fun e w' => EsP (sw l f t X) w0 e w' ∧ Below w.heap.size w w' := by
  have hlen := HT.out.len
  obtain ⟨a3, c3, hs3, hT3⟩ := sl_lh' HT.out hft ht
  have hXl : xn = X.length := by obtain ⟨_, _, e⟩ := HX.out.shape; simp at e; exact e.2.1
  subst hXl
  have hTX := HX.out.tx (by omega)
  have C1 := equal_any a3 (t - f) c3 (sl l f t) xp X.length xc X w hT3 hTX
  have hsl : (sl l f t).length = t - f := sl_len (by omega)
  have h1 : (0 : Int) ≤ (f : Int) := by omega
  have h2 : (f : Int) ≤ (t : Int) := by omega
  have h3 : (t : Int) ≤ (n : Int) := by omega
  have hcap := HT.out.cap
  have h4 : (t : Int) ≤ (c : Int) := by omega
  unfold sw
  rcases beq_of (rfl : (sl l f t == X) = _) with ⟨e, he⟩ | ⟨e, he⟩
  · rw [if_pos e]
    rw [he] at C1
    have C := Hid.mk' C1
    clear C1 he hTX hT3 HX HT
    go_enter Tryz.func83, Tryz.ntmps83
    go_wp2_with (first | (go_at_call 79; refine C.out.mono ?_; rintro e w' ⟨rfl, hw⟩; subst hw) | fail)
    go_ret
    exact ⟨⟨.slice none 0 0, [], rfl, rfl, Eds.nil _ _ _, hB.out⟩, Below.refl _ _⟩
  · rw [if_neg e]
    rw [he] at C1
    have C := Hid.mk' C1
    have C2 := Hid.mk' (cloneW_any a3 (t - f) c3 (sl l f t) w (by omega) hT3)
    have HSL := Hid.mk' hsl
    have HNE := Hid.mk' e
    have HF := Hid.mk' (show (sl l f t).length ≤ 140737488355328 by omega)
    clear C1 he hTX hT3 HT hsl e hlen
    go_enter Tryz.func83, Tryz.ntmps83
    go_wp2_with (first | (go_at_call 79; refine C.out.mono ?_; rintro e w' ⟨rfl, hw⟩; have hq := hw.symm; subst hq; clear hw) | (go_at_call 46; refine C2.out.mono ?_; rintro e w2 ⟨v2, rfl, hW2, hB2⟩; have O2 := Hid.mk' hW2; have B2 := Hid.mk' hB2; obtain ⟨p2, c2, rfl⟩ := hW2.shape; clear hW2 hB2) | fail)
    go_ret
    have O9 := O2.out
    have hb3 := bAlloc (Below.refl w2.heap.size w2) (.cells #[.int .i64 (f : Int), .slice p2 (sl l f t).length c2, .slice xp X.length xc] 65)
    have hs2 := B2.out.size
    have hs0 := hB.out.size
    refine ⟨⟨_, [⟨(f : Int), p2, (sl l f t).length, c2, sl l f t, xp, X.length, xc, X⟩], rfl, rfl, ?_, bT hB.out (bT B2.out hb3)⟩, bT B2.out hb3⟩
    rw [World.size_alloc]
    exact Eds.one (lo := w0.heap.size) (hi := w2.heap.size) (O9.wide hs0 (Nat.le_refl _)) ((HX.out.keep B2.out).wide (Nat.le_refl _) hs2) ((O9.far HX.out (.inr (Nat.le_refl _)))) HF.out hX (Nat.le_refl _) (Nat.le_trans hs0 hs2) hb3 (Blk.new w2 65 _)
end Go.Proofs.YtppefcnopkmhbaaGreatDoor

namespace Go.Proofs.YtppefcnopkmhbaaGreatDoor
open Go.RowKit

set_option maxRecDepth 8000
theorem Wb.offt {W W' : World} {lo hi B e : Nat} {v : Value} {l : List UInt8} {cs : Array Value} (h : Wb W lo hi v l) (hK : Blk W B e cs) (he : e ≠ 5) (hg : W.grownBy W' (some B)) : Wb W' lo hi v l :=
  h.off hg fun g hg' e' => by
    injection e' with e'
    subst e'
    rcases h with ⟨rfl, _⟩ | ⟨g1, cap, cur, rfl, _, _, h3, _⟩
    · cases hg'
    · simp [Value.ownBlock] at hg'
      subst hg'
      unfold Blk at h3 hK
      rw [h3] at hK
      simp at hK
      exact he hK.2.symm
theorem own_offt {W W' : World} {base e e' s n B : Nat} {v : Value} {xs : List Value} {cs : Array Value} (h : W.ownsRow base e s v n xs) (hK : Blk W B e' cs) (he : e' ≠ e) (hg : W.grownBy W' (some B)) : W'.ownsRow base e s v n xs :=
  own_same h fun g h1 h2 => hg.block g h2 fun e9 => by
    injection e9 with e9
    subst e9
    rcases h.2 with ⟨rfl, _⟩ | ⟨g1, cap, cur, rfl, _, h3, _⟩
    · simp [Value.ownBlock] at h1
    · simp [Value.ownBlock] at h1
      subst h1
      unfold Blk at hK
      rw [h3] at hK
      simp at hK
      exact he hK.2.symm
theorem Eds.offt {W W' : World} {lo hi B : Nat} {v : Value} {F : List Er} {cs : Array Value} (h : Eds W lo hi v F) (hK : Blk W B 35 cs) (hg : W.grownBy W' (some B)) : Eds W' lo hi v F :=
  ⟨own_offt h.row hK (by decide) hg, h.up, fun k x hk => (h.tx k x hk).offt hK (by decide) hg, h.far, h.big⟩
theorem Efm.offt {W W' : World} {lo hi B : Nat} {v tv : Value} {F : List Er} {T : List UInt8} {cs : Array Value} (h : Efm W lo hi v F tv T) (hK : Blk W B 35 cs) (hg : W.grownBy W' (some B)) : Efm W' lo hi v F tv T := ⟨h.eds.offt hK hg, h.tx.offt hK (by decide) hg, h.far⟩
/-- a call that answers an effect, some of its texts made since w0 -/
def EaP (x : Ef) (w0 : World) (e : Ending) (w' : World) : Prop := ∃ v F tv, e = .returned (efV v tv x) ∧ F.map Er.d = x.es ∧ Efm w' w0.heap.size w'.heap.size v F tv x.txt ∧ Below w0.heap.size w0 w'
theorem EaP.out {x : Ef} {w0 w5 w6 : World} {v tv : Value} {F : List Er} {B : Nat} {cs : Array Value} (hF : F.map Er.d = x.es) (hM : Efm w5 w0.heap.size w5.heap.size v F tv x.txt) (hb : Below w0.heap.size w0 w5) (hK : Blk w5 B 35 cs) (hB : w0.heap.size ≤ B) (hg : w5.grownBy w6 (some B)) :
    EaP x w0 (.returned (efV v tv x)) w6 :=
  ⟨v, F, tv, rfl, hF, (hM.offt hK hg).wide (Nat.le_refl _) hg.size, hb.grown hg hb.size (fun g hg' => by injection hg' with hg'; omega)⟩
/-- what putBytes answers -/
def pbX (l : List UInt8) (k : Nat) (X : List UInt8) (ah : Bool) : Ef :=
  if X.length = 0 then ⟨[], (k : Int), false, false, [], 0, false⟩
  else
    let p := if ah = true then k else bsd l k
    ⟨sw l p p X, if hasL X = true then (p : Int) else ((p + (X.length - 1) : Nat) : Int), false, false, [], 0, false⟩
theorem bsd_le {l : List UInt8} {k : Nat} (h : k ≤ l.length) : bsd l k ≤ l.length := by
  have := ow_le h
  unfold bsd
  omega
set_option maxHeartbeats 8000000 in
set_option linter.unusedSimpArgs false in
theorem putBytes_any (w0 : World) (ao : Option Addr) (n c k : Nat) (l : List UInt8) (xp : Option Addr) (xn xc : Nat) (X : List UInt8) (ah : Bool) (w : World) (HT : Hid (Tx w ao n c l)) (hk : k ≤ n) (hbig : n ≤ 1048576) (hB0 : Hid (Below w0.heap.size w0 w)) (HX : Hid (Wb w w0.heap.size w.heap.size (.slice xp xn xc) X)) (hX : X.length ≤ 1048576) :
    Calls Tryz.prog 50 #[.slice ao n c, .int .i64 (k : Int), .slice xp xn xc, .bool ah] w fun e w' => EaP (pbX l k X ah) w0 e w' := by
  have hln := HT.out.len
  have hXl : xn = X.length := by obtain ⟨_, _, e⟩ := HX.out.shape; simp at e; exact e.2.1
  have HXL := Hid.mk' hXl
  rw [← hXl] at hX
  clear hXl
  obtain ⟨x, hx⟩ : ∃ x, pbX l k X ah = x := ⟨_, rfl⟩
  rw [hx]
  have HPX := Hid.mk' hx
  clear hx
  obtain ⟨W1, hW1⟩ : ∃ x, w.alloc (.cells #[.slice none 0 0, .int .i64 0, .bool false, .bool false, .slice none 0 0, .int .i64 0, .bool false] 35) = x := ⟨_, rfl⟩
  obtain ⟨B, hB⟩ : ∃ b, w.heap.size = b := ⟨_, rfl⟩
  have HB := Hid.mk' hB
  have J1 : Hid (Blk W1 B 35 (ef7 (.slice none 0 0) 0 false false (.slice none 0 0) 0 false)) := by unfold Hid; rw [← hW1, ← hB]; exact Blk.new w 35 _
  have hb1 : Below w.heap.size w W1 := by rw [← hW1]; exact bAlloc (Below.refl _ _) _
  have B1 := Hid.mk' (bT hB0.out hb1)
  have HT1 := Hid.mk' (HT.out.keep hb1)
  have HX1 := Hid.mk' ((HX.out.keep hb1).wide (Nat.le_refl _) hb1.size)
  have HB0 := Hid.mk' hB0.out.size
  clear hb1 HT HX hB0
  by_cases h0 : xn = 0
  · have HP2 : Hid ((⟨[], (k : Int), false, false, [], 0, false⟩ : Ef) = x) := by rw [← HPX.out]; unfold pbX; rw [← HXL.out, if_pos h0]; rfl
    subst h0
    go_enter Tryz.func50, Tryz.ntmps50
    go_upto_region 1 with fail
    clear hW1 hB
    go_upto_region 2 with fail
    obtain ⟨j0, j1, j2, j3, j4, j5, j6⟩ := ef_cells J1.out
    obtain ⟨f0, f1, f2, f3, f4, f5, f6⟩ := ef_frozen J1.out
    have hbk := ef_store J1.out (.slice none 0 0) (.int .i64 (k : Int)) (.bool false) (.bool false) (.slice none 0 0) (.int .i64 0) (.bool false)
    have hgr := ef_grown W1 B (.slice none 0 0) (.int .i64 (k : Int)) (.bool false) (.bool false) (.slice none 0 0) (.int .i64 0) (.bool false)
    go_wp2_with fail
    generalize (((((((W1.setCell ⟨B, 0, none⟩ (.slice none 0 0)).setCell ⟨B, 1, none⟩ (.int .i64 (k : Int))).setCell ⟨B, 2, none⟩ (.bool false)).setCell ⟨B, 3, none⟩ (.bool false)).setCell ⟨B, 4, none⟩ (.slice none 0 0)).setCell ⟨B, 5, none⟩ (.int .i64 0)).setCell ⟨B, 6, none⟩ (.bool false)) = w9 at *
    obtain ⟨g0, g1, g2, g3, g4, g5, g6⟩ := ef_cells hbk
    refine bodyPost_ret (v := .agg #[.slice none 0 0, .int .i64 (k : Int), .bool false, .bool false, .slice none 0 0, .int .i64 0, .bool false]) (by simp [results, Tryz.results50, go_sem, g0, g1, g2, g3, g4, g5, g6]) rfl ?_
    rw [← HP2.out]
    exact EaP.out (x := ⟨[], (k : Int), false, false, [], 0, false⟩) (F := []) rfl (Efm.bare (Eds.nil _ _ _)) B1.out J1.out (by have := HB.out; have := HB0.out; omega) hgr
  · have h0' : ¬ xn = 0 := h0
    obtain ⟨m, hm⟩ : ∃ m, xn - 1 = m := ⟨_, rfl⟩
    have hhi : IntKind.i64.wrap ((xn : Int) - 1) = (m : Int) := by rw [IntKind.wrap_i64]; omega
    have hmb : m ≤ 1048576 := by omega
    have HM := Hid.mk' hm
    clear hm
    have CB := Hid.mk' (beside_any ao n c k l W1 hk HT1.out)
    have hbs := bsd_le (l := l) (k := k) (by omega)
    have hTX := HX1.out.tx (by have := HXL.out; omega)
    have CC : Hid (∀ W B2, Below W1.heap.size W1 W → W.cell? ⟨B2, 0, none⟩ = some (.int .u8 10) → Calls Tryz.prog 86 #[.slice xp xn xc, .slice (some ⟨B2, 0, none⟩) 1 1] W fun e w' => e = .returned (.bool (hasL X)) ∧ w' = W) := fun W B2 hW h => contains_any xp xn xc B2 X W (hTX.keep hW) h
    have CS : Hid (∀ (W : World) (p : Nat), p ≤ n → Below W1.heap.size W1 W → Calls Tryz.prog 83 #[.slice ao n c, .int .i64 (p : Int), .int .i64 (p : Int), .slice xp xn xc] W fun e w' => EsP (sw l p p X) w0 e w' ∧ Below W.heap.size W w') := fun W p hp hW => swap_two w0 ao n c p p l xp xn xc X W (HT1.out.keep hW) (Nat.le_refl _) hp (by omega) (bT B1.out hW) ((HX1.out.keep hW).wide (Nat.le_refl _) hW.size) (by have := HXL.out; omega)
    have hc1 : ∀ W : World, (W.alloc (.cells #[.int .u8 10] 5)).cell? ⟨W.heap.size, 0, none⟩ = some (.int .u8 10) := fun W => (Blk.new W 5 #[.int .u8 10]).cell rfl
    clear hTX
    go_enter Tryz.func50, Tryz.ntmps50
    go_upto_region 1 with fail
    clear hW1 hB
    cases ah with
    | true =>
      clear CB
      go_upto_region 6 with fail
      have hw2 : IntKind.i64.wrap ((k : Int) + (m : Int)) = (k : Int) + (m : Int) := by rw [IntKind.wrap_i64]; omega
      cases hL : hasL X with
      | true =>
        rw [hL] at CC
        have HP2 : Hid ((⟨sw l k k X, (k : Int), false, false, [], 0, false⟩ : Ef) = x) := by rw [← HPX.out]; unfold pbX; rw [← HXL.out, if_neg h0]; dsimp only; rw [if_pos rfl, hL, if_pos rfl]; rfl
        go_upto_region 8 with (first | (go_at_call 86; refine (CC.out (W1.alloc (.cells #[.int .u8 10] 5)) _ (bAlloc (Below.refl _ _) _) (hc1 W1)).mono ?_; rintro e w' ⟨rfl, hw⟩; have hq := hw.symm; subst hq; clear hw) | fail)
        go_wp2_with (first | (go_at_call 83; refine (CS.out (W1.alloc (.cells #[.int .u8 10] 5)) k hk (bAlloc (Below.refl _ _) _)).mono ?_; rintro e w5 ⟨⟨v, F, rfl, hF, hE, hb5⟩, hk5⟩; obtain ⟨eo, ec, rfl, -, -⟩ := hE.edz; have J5 := Hid.mk' (J1.out.keep (bT (bAlloc (Below.refl W1.heap.size W1) (.cells #[.int .u8 10] 5)) hk5)); have HF := Hid.mk' hF; have E5 := Hid.mk' hE; have B5 := Hid.mk' hb5; clear hF hE hb5 hk5 CS CC; obtain ⟨j0, j1, j2, j3, j4, j5, j6⟩ := ef_cells J5.out; obtain ⟨f0, f1, f2, f3, f4, f5, f6⟩ := ef_frozen J5.out; have hbk := ef_store J5.out (.slice eo F.length ec) (.int .i64 (k : Int)) (.bool false) (.bool false) (.slice none 0 0) (.int .i64 0) (.bool false); have hgr := ef_grown w5 B (.slice eo F.length ec) (.int .i64 (k : Int)) (.bool false) (.bool false) (.slice none 0 0) (.int .i64 0) (.bool false)) | fail)
        generalize (((((((w5.setCell ⟨B, 0, none⟩ (.slice eo F.length ec)).setCell ⟨B, 1, none⟩ (.int .i64 (k : Int))).setCell ⟨B, 2, none⟩ (.bool false)).setCell ⟨B, 3, none⟩ (.bool false)).setCell ⟨B, 4, none⟩ (.slice none 0 0)).setCell ⟨B, 5, none⟩ (.int .i64 0)).setCell ⟨B, 6, none⟩ (.bool false)) = w9 at *
        obtain ⟨g0, g1, g2, g3, g4, g5, g6⟩ := ef_cells hbk
        refine bodyPost_ret (v := .agg #[.slice eo F.length ec, .int .i64 (k : Int), .bool false, .bool false, .slice none 0 0, .int .i64 0, .bool false]) (by simp [results, Tryz.results50, go_sem, g0, g1, g2, g3, g4, g5, g6]) rfl ?_
        rw [← HP2.out]
        exact EaP.out (x := ⟨sw l k k X, (k : Int), false, false, [], 0, false⟩) HF.out (Efm.bare E5.out) B5.out J5.out (by have := HB.out; have := HB0.out; omega) hgr
      | false =>
        rw [hL] at CC
        have HP2 : Hid ((⟨sw l k k X, ((k : Int) + (m : Int)), false, false, [], 0, false⟩ : Ef) = x) := by rw [← HPX.out]; unfold pbX; rw [← HXL.out, if_neg h0]; dsimp only; rw [if_pos rfl, hL, if_neg (by simp), HM.out, Int.natCast_add]; rfl
        go_upto_region 8 with (first | (go_at_call 86; refine (CC.out (W1.alloc (.cells #[.int .u8 10] 5)) _ (bAlloc (Below.refl _ _) _) (hc1 W1)).mono ?_; rintro e w' ⟨rfl, hw⟩; have hq := hw.symm; subst hq; clear hw) | fail)
        go_wp2_with (first | (go_at_call 83; refine (CS.out (W1.alloc (.cells #[.int .u8 10] 5)) k hk (bAlloc (Below.refl _ _) _)).mono ?_; rintro e w5 ⟨⟨v, F, rfl, hF, hE, hb5⟩, hk5⟩; obtain ⟨eo, ec, rfl, -, -⟩ := hE.edz; have J5 := Hid.mk' (J1.out.keep (bT (bAlloc (Below.refl W1.heap.size W1) (.cells #[.int .u8 10] 5)) hk5)); have HF := Hid.mk' hF; have E5 := Hid.mk' hE; have B5 := Hid.mk' hb5; clear hF hE hb5 hk5 CS CC; obtain ⟨j0, j1, j2, j3, j4, j5, j6⟩ := ef_cells J5.out; obtain ⟨f0, f1, f2, f3, f4, f5, f6⟩ := ef_frozen J5.out; have hbk := ef_store J5.out (.slice eo F.length ec) (.int .i64 ((k : Int) + (m : Int))) (.bool false) (.bool false) (.slice none 0 0) (.int .i64 0) (.bool false); have hgr := ef_grown w5 B (.slice eo F.length ec) (.int .i64 ((k : Int) + (m : Int))) (.bool false) (.bool false) (.slice none 0 0) (.int .i64 0) (.bool false)) | fail)
        generalize (((((((w5.setCell ⟨B, 0, none⟩ (.slice eo F.length ec)).setCell ⟨B, 1, none⟩ (.int .i64 ((k : Int) + (m : Int)))).setCell ⟨B, 2, none⟩ (.bool false)).setCell ⟨B, 3, none⟩ (.bool false)).setCell ⟨B, 4, none⟩ (.slice none 0 0)).setCell ⟨B, 5, none⟩ (.int .i64 0)).setCell ⟨B, 6, none⟩ (.bool false)) = w9 at *
        obtain ⟨g0, g1, g2, g3, g4, g5, g6⟩ := ef_cells hbk
        refine bodyPost_ret (v := .agg #[.slice eo F.length ec, .int .i64 ((k : Int) + (m : Int)), .bool false, .bool false, .slice none 0 0, .int .i64 0, .bool false]) (by simp [results, Tryz.results50, go_sem, g0, g1, g2, g3, g4, g5, g6]) rfl ?_
        rw [← HP2.out]
        exact EaP.out (x := ⟨sw l k k X, ((k : Int) + (m : Int)), false, false, [], 0, false⟩) HF.out (Efm.bare E5.out) B5.out J5.out (by have := HB.out; have := HB0.out; omega) hgr
    | false =>
      rw [hln] at hbs
      obtain ⟨p, hp⟩ : ∃ p, bsd l k = p := ⟨_, rfl⟩
      rw [hp] at hbs CB
      have HBP := Hid.mk' hp
      clear hp
      go_upto_region 6 with (first | (go_at_call 85; refine CB.out.mono ?_; rintro e w' ⟨rfl, hw⟩; have hq := hw.symm; subst hq; clear hw) | fail)
      clear CB
      have hw2 : IntKind.i64.wrap ((p : Int) + (m : Int)) = (p : Int) + (m : Int) := by rw [IntKind.wrap_i64]; omega
      cases hL : hasL X with
      | true =>
        rw [hL] at CC
        have HP2 : Hid ((⟨sw l p p X, (p : Int), false, false, [], 0, false⟩ : Ef) = x) := by rw [← HPX.out]; unfold pbX; rw [← HXL.out, if_neg h0]; dsimp only; rw [if_neg (by simp), HBP.out, hL, if_pos rfl]; rfl
        go_upto_region 8 with (first | (go_at_call 86; refine (CC.out (W1.alloc (.cells #[.int .u8 10] 5)) _ (bAlloc (Below.refl _ _) _) (hc1 W1)).mono ?_; rintro e w' ⟨rfl, hw⟩; have hq := hw.symm; subst hq; clear hw) | fail)
        go_wp2_with (first | (go_at_call 83; refine (CS.out (W1.alloc (.cells #[.int .u8 10] 5)) p hbs (bAlloc (Below.refl _ _) _)).mono ?_; rintro e w5 ⟨⟨v, F, rfl, hF, hE, hb5⟩, hk5⟩; obtain ⟨eo, ec, rfl, -, -⟩ := hE.edz; have J5 := Hid.mk' (J1.out.keep (bT (bAlloc (Below.refl W1.heap.size W1) (.cells #[.int .u8 10] 5)) hk5)); have HF := Hid.mk' hF; have E5 := Hid.mk' hE; have B5 := Hid.mk' hb5; clear hF hE hb5 hk5 CS CC; obtain ⟨j0, j1, j2, j3, j4, j5, j6⟩ := ef_cells J5.out; obtain ⟨f0, f1, f2, f3, f4, f5, f6⟩ := ef_frozen J5.out; have hbk := ef_store J5.out (.slice eo F.length ec) (.int .i64 (p : Int)) (.bool false) (.bool false) (.slice none 0 0) (.int .i64 0) (.bool false); have hgr := ef_grown w5 B (.slice eo F.length ec) (.int .i64 (p : Int)) (.bool false) (.bool false) (.slice none 0 0) (.int .i64 0) (.bool false)) | fail)
        generalize (((((((w5.setCell ⟨B, 0, none⟩ (.slice eo F.length ec)).setCell ⟨B, 1, none⟩ (.int .i64 (p : Int))).setCell ⟨B, 2, none⟩ (.bool false)).setCell ⟨B, 3, none⟩ (.bool false)).setCell ⟨B, 4, none⟩ (.slice none 0 0)).setCell ⟨B, 5, none⟩ (.int .i64 0)).setCell ⟨B, 6, none⟩ (.bool false)) = w9 at *
        obtain ⟨g0, g1, g2, g3, g4, g5, g6⟩ := ef_cells hbk
        refine bodyPost_ret (v := .agg #[.slice eo F.length ec, .int .i64 (p : Int), .bool false, .bool false, .slice none 0 0, .int .i64 0, .bool false]) (by simp [results, Tryz.results50, go_sem, g0, g1, g2, g3, g4, g5, g6]) rfl ?_
        rw [← HP2.out]
        exact EaP.out (x := ⟨sw l p p X, (p : Int), false, false, [], 0, false⟩) HF.out (Efm.bare E5.out) B5.out J5.out (by have := HB.out; have := HB0.out; omega) hgr
      | false =>
        rw [hL] at CC
        have HP2 : Hid ((⟨sw l p p X, ((p : Int) + (m : Int)), false, false, [], 0, false⟩ : Ef) = x) := by rw [← HPX.out]; unfold pbX; rw [← HXL.out, if_neg h0]; dsimp only; rw [if_neg (by simp), HBP.out, hL, if_neg (by simp), HM.out, Int.natCast_add]; rfl
        go_upto_region 8 with (first | (go_at_call 86; refine (CC.out (W1.alloc (.cells #[.int .u8 10] 5)) _ (bAlloc (Below.refl _ _) _) (hc1 W1)).mono ?_; rintro e w' ⟨rfl, hw⟩; have hq := hw.symm; subst hq; clear hw) | fail)
        go_wp2_with (first | (go_at_call 83; refine (CS.out (W1.alloc (.cells #[.int .u8 10] 5)) p hbs (bAlloc (Below.refl _ _) _)).mono ?_; rintro e w5 ⟨⟨v, F, rfl, hF, hE, hb5⟩, hk5⟩; obtain ⟨eo, ec, rfl, -, -⟩ := hE.edz; have J5 := Hid.mk' (J1.out.keep (bT (bAlloc (Below.refl W1.heap.size W1) (.cells #[.int .u8 10] 5)) hk5)); have HF := Hid.mk' hF; have E5 := Hid.mk' hE; have B5 := Hid.mk' hb5; clear hF hE hb5 hk5 CS CC; obtain ⟨j0, j1, j2, j3, j4, j5, j6⟩ := ef_cells J5.out; obtain ⟨f0, f1, f2, f3, f4, f5, f6⟩ := ef_frozen J5.out; have hbk := ef_store J5.out (.slice eo F.length ec) (.int .i64 ((p : Int) + (m : Int))) (.bool false) (.bool false) (.slice none 0 0) (.int .i64 0) (.bool false); have hgr := ef_grown w5 B (.slice eo F.length ec) (.int .i64 ((p : Int) + (m : Int))) (.bool false) (.bool false) (.slice none 0 0) (.int .i64 0) (.bool false)) | fail)
        generalize (((((((w5.setCell ⟨B, 0, none⟩ (.slice eo F.length ec)).setCell ⟨B, 1, none⟩ (.int .i64 ((p : Int) + (m : Int)))).setCell ⟨B, 2, none⟩ (.bool false)).setCell ⟨B, 3, none⟩ (.bool false)).setCell ⟨B, 4, none⟩ (.slice none 0 0)).setCell ⟨B, 5, none⟩ (.int .i64 0)).setCell ⟨B, 6, none⟩ (.bool false)) = w9 at *
        obtain ⟨g0, g1, g2, g3, g4, g5, g6⟩ := ef_cells hbk
        refine bodyPost_ret (v := .agg #[.slice eo F.length ec, .int .i64 ((p : Int) + (m : Int)), .bool false, .bool false, .slice none 0 0, .int .i64 0, .bool false]) (by simp [results, Tryz.results50, go_sem, g0, g1, g2, g3, g4, g5, g6]) rfl ?_
        rw [← HP2.out]
        exact EaP.out (x := ⟨sw l p p X, ((p : Int) + (m : Int)), false, false, [], 0, false⟩) HF.out (Efm.bare E5.out) B5.out J5.out (by have := HB.out; have := HB0.out; omega) hgr
end Go.Proofs.YtppefcnopkmhbaaGreatDoor
