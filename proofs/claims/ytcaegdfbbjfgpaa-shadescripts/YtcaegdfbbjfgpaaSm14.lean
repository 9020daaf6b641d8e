/- The trees and the books of the law's script. -/
import Derived.Test.YtcaegdfbbjfgpaaSm13
namespace Go.Proofs.Ytcaegdfbbjfgpaa
open Go.RowKit

theorem info26 : (Try.prog.info? 26).map (fun i => (i.zero, i.size, i.bytes)) = some (some (.agg #[.pointer none]), 1, 8) := by kernel_rfl
theorem info37 : (Try.prog.info? 37).map (fun i => (i.zero, i.size, i.bytes)) = some (some (.slice none 0 0), 1, 24) := by kernel_rfl
/-- a row of one, laid -/
theorem own_lit1 (w : World) (base e : Nat) (x : Value) (hb : base ≤ w.heap.size) : (w.alloc (.cells #[x] e)).ownsRow base e 1 (.slice (some ⟨w.heap.size, 0, none⟩) 1 1) 1 [x] :=
  ⟨by simp, .inr ⟨w.heap.size, 1, #[x], rfl, hb, heap_alloc_new w _, Nat.le_refl _, by unfold maxLen; omega, by simp, by simp⟩⟩
theorem own_block {W : World} {base e size n : Nat} {v : Value} {xs : List Value} (h : W.ownsRow base e size v n xs) {k : Nat} (hk : v.ownBlock = some k) : ∃ cur, W.heap[k]? = some (.cells cur e (0, 0)) := by
  rcases h.2 with ⟨rfl, _⟩ | ⟨g, cap, cur, rfl, _, hg, _⟩
  · simp [Value.ownBlock] at hk
  · simp [Value.ownBlock] at hk
    subst hk
    exact ⟨cur, hg⟩
/-- where a row that is no node's grows, the trees stay -/
theorem At.grown {w w' : World} {base e size n : Nat} {v : Value} {xs : List Value} (ho : w.ownsRow base e size v n xs) (he : e ≠ 116) (hg : w.grownBy w' v.ownBlock) : ∀ {T : Tr} {a : Option Addr}, At w T a → At w' T a
  | (Tr.mk none), _, h => h
  | (Tr.mk (some (c, l, p, r))), _, ⟨b', la, ra, e', h, h1, h2⟩ => by
    refine ⟨b', la, ra, e', ?_, At.grown ho he hg h1, At.grown ho he hg h2⟩
    rw [hg.block b' (Array.getElem?_eq_some_iff.1 h).1 ?_]
    · exact h
    · intro e1
      obtain ⟨cur, h3⟩ := own_block ho e1.symm
      rw [h3] at h
      have := Option.some.inj h
      unfold nodeObj at this
      injection this with _ e3 _
      exact he e3
theorem Ow.grown {w w' : World} {base e size n : Nat} {v l : Value} {xs : List Value} {T : Tr} (h : Ow w l T) (ho : w.ownsRow base e size v n xs) (he : e ≠ 72) (hg : w.grownBy w' v.ownBlock) : Ow w' l T := by
  obtain ⟨b0, h⟩ := h
  refine ⟨b0, h.kept hg ?_⟩
  cases e1 : v.ownBlock with
  | none => cases e2 : l.ownBlock <;> simp
  | some k =>
    right
    intro e2
    obtain ⟨cur, h3⟩ := own_block ho e1
    exact Ow.ne ⟨b0, h⟩ h3 he e2
/-- what is known of the script's trees -/
structure St (W : World) (base : Nat) (vt vb : Value) (Ts : List (Tr × Option Addr × Value)) : Prop where
  t : W.ownsRow base 26 1 vt Ts.length (Ts.map fun x => .pointer x.2.1)
  b : W.ownsRow base 37 1 vb Ts.length (Ts.map fun x => x.2.2)
  all : ∀ x ∈ Ts, Gt x.1 ∧ At W x.1 x.2.1 ∧ Ow W x.2.2 x.1
theorem St.keep {W W' : World} {base : Nat} {vt vb : Value} {Ts : List (Tr × Option Addr × Value)} (h : St W base vt vb Ts) (hb : Below W.heap.size W W') : St W' base vt vb Ts :=
  ⟨own_keep' h.t hb, own_keep' h.b hb, fun x hx => ⟨(h.all x hx).1, (h.all x hx).2.1.keep hb, (h.all x hx).2.2.keep hb⟩⟩
/-- the cells at a place -/
theorem St.at {W : World} {base : Nat} {vt vb : Value} {Ts : List (Tr × Option Addr × Value)} (h : St W base vt vb Ts) {k : Nat} {T : Tr} {a : Option Addr} {l : Value} (hk : Ts[k]? = some (T, a, l)) :
    ∃ gt ct gb cb, vt = .slice (some ⟨gt, 0, none⟩) Ts.length ct ∧ vb = .slice (some ⟨gb, 0, none⟩) Ts.length cb ∧ W.cell? ⟨gt, k, none⟩ = some (.pointer a) ∧ W.cell? ⟨gb, k, none⟩ = some l ∧ Gt T ∧ At W T a ∧ Ow W l T := by
  have hlt := (List.getElem?_eq_some_iff.1 hk).1
  have hm := List.mem_of_getElem? hk
  rcases h.t.2 with ⟨_, h0⟩ | ⟨gt, ct, cur, e1, _⟩
  · omega
  rcases h.b.2 with ⟨_, h0⟩ | ⟨gb, cb, cur, e2, _⟩
  · omega
  have ht := h.t
  have hb := h.b
  rw [e1] at ht
  rw [e2] at hb
  refine ⟨gt, ct, gb, cb, e1, e2, ?_, ?_, h.all _ hm⟩
  · rw [ht.cellAt k (by omega), List.getElem?_map, hk]; rfl
  · rw [hb.cellAt k (by omega), List.getElem?_map, hk]; rfl
/-- one tree more -/
theorem St.push {W W1 W2 : World} {base : Nat} {vt vb vt' vb' : Value} {Ts : List (Tr × Option Addr × Value)} {T : Tr} {a : Option Addr} {l : Value} (h : St W base vt vb Ts) (gT : Gt T) (hA : At W T a) (hO : Ow W l T)
    (g1 : W.grownBy W1 vt.ownBlock) (o1 : W1.ownsRow base 26 1 vt' (Ts.length + 1) ((Ts.map fun x => Value.pointer x.2.1) ++ [.pointer a]))
    (g2 : W1.grownBy W2 vb.ownBlock) (o2 : W2.ownsRow base 37 1 vb' (Ts.length + 1) ((Ts.map fun x => x.2.2) ++ [l])) :
    St W2 base vt' vb' (Ts ++ [(T, a, l)]) := by
  have hb1 : W1.ownsRow base 37 1 vb Ts.length (Ts.map fun x => x.2.2) := h.b.kept g1 (by
    cases e1 : vt.ownBlock with
    | none => cases e2 : vb.ownBlock <;> simp
    | some k =>
      right
      intro e2
      obtain ⟨c1, h1⟩ := own_block h.t e1
      obtain ⟨c2, h2⟩ := own_block h.b e2
      rw [h1] at h2
      cases h2)
  have A1 : ∀ {T : Tr} {a : Option Addr}, At W T a → At W2 T a := fun hh => At.grown hb1 (by decide) g2 (At.grown h.t (by decide) g1 hh)
  have O1 : ∀ {T : Tr} {l : Value}, Ow W l T → Ow W2 l T := fun hh => (hh.grown h.t (by decide) g1).grown hb1 (by decide) g2
  refine ⟨?_, ?_, ?_⟩
  · rw [List.length_append, List.map_append]
    refine o1.kept g2 ?_
    cases e1 : vt'.ownBlock with
    | none => exact .inl rfl
    | some k =>
      right
      intro e
      obtain ⟨c1, h1⟩ := own_block o1 e1
      obtain ⟨c2, h2⟩ := own_block hb1 e.symm
      rw [h1] at h2
      cases h2
  · rw [List.length_append, List.map_append]
    exact o2
  · intro x hx
    rcases List.mem_append.1 hx with hx | hx
    · obtain ⟨x1, x2, x3⟩ := h.all x hx
      exact ⟨x1, A1 x2, O1 x3⟩
    · simp at hx
      subst hx
      exact ⟨gT, A1 hA, O1 hO⟩
theorem grown_alloc {W W1 : World} {row : Option Nat} (h : W.grownBy W1 row) (o : Obj) : W.grownBy (W1.alloc o) row := ⟨h.os, h.tape, h.output, by have := h.size; simp; omega, fun k hk hv => by rw [(World.grownBy_alloc W1 o none).block k (by have := h.size; omega) (by simp)]; exact h.block k hk hv⟩
theorem fresh_ne {v v' : Value} {W : World} {g : Nat} (h : v'.ownBlock = v.ownBlock ∨ ∃ q, v'.ownBlock = some q ∧ W.heap.size ≤ q) (hg : g < W.heap.size) (hn : v.ownBlock ≠ some g) : v'.ownBlock ≠ some g := by
  rcases h with e | ⟨q, e, hq⟩
  · rw [e]; exact hn
  · rw [e]; simp; omega
/-- the books stay, where the trees grow -/
theorem St.bkept {W W1 : World} {base : Nat} {vt vb : Value} {Ts : List (Tr × Option Addr × Value)} (h : St W base vt vb Ts) (g1 : W.grownBy W1 vt.ownBlock) : W1.ownsRow base 37 1 vb Ts.length (Ts.map fun x => x.2.2) := h.b.kept g1 (by
  cases e1 : vt.ownBlock with
  | none => cases e2 : vb.ownBlock <;> simp
  | some k =>
    right
    intro e2
    obtain ⟨c1, h1⟩ := own_block h.t e1
    obtain ⟨c2, h2⟩ := own_block h.b e2
    rw [h1] at h2
    cases h2)
end Go.Proofs.Ytcaegdfbbjfgpaa
