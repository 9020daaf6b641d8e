/- One question of the script, asked of the buffer and of the book: quoinlaw01.told between two steps. -/
import Derived.Test.YtfjfflkdcmpgnaaScriptKit
namespace Go.Proofs.Ytfjfflkdcmpgnaa
open Go.RowKit

/-- the list of lists holds the lists that were read, in their order -/
def InRow (cnt n : Nat) (xs : List Value) (G : Nat → Value) : Prop := n = cnt ∧ xs = (List.range cnt).map (fun k => G (6 + k))

theorem tell {w W : World} {b b2 bk bl cnt n : Nat} {xs : List Value} {vl : Value} {G : Nat → Value} {M : Nat → Nat} {Z : Nat → List Value} {O A A2 : List UInt8} (h : Hid (Sta w W b b2 bk bl vl cnt n xs G M Z O A A2 A)) (kd : Int) (vP : Value) (s o l i : Int)
    (h1 : -9223372036854775808 ≤ l) (h2 : l ≤ 9223372036854775807) (h3 : -9223372036854775808 ≤ o) (h4 : o ≤ 9223372036854775807) (h5 : i ≤ 9223372036854775807) (bO : O.length ≤ 16777216) (bA : A.length ≤ 16777216) (bn : n ≤ 16777216) (v4 v5 : Value) (e4 : G 4 = v4) (e5 : G 5 = v5) :
    Calls Try.prog 12 #[.pointer (some ⟨b, 0, none⟩), .agg #[v4, v5], .agg #[.int .i64 kd, vP, .int .i64 s, .int .i64 o, .int .i64 l, .int .i64 i], .pointer (some ⟨bl, 0, none⟩)] W fun e w' => e = .returned (.bool true) ∧ ∃ vl' cnt' n' xs' G' M' Z', Sta w w' b b2 bk bl vl' cnt' n' xs' G' M' Z' O A A2 A ∧ n' ≤ n + 2 ∧ (InRow cnt n xs G → InRow cnt' n' xs' G') := by
  have hO := h.out.own 4 (by omega)
  have hA := h.out.own 5 (by omega)
  rw [h.out.z4.1, h.out.z4.2, e4] at hO
  rw [h.out.z5.1, h.out.z5.2, e5] at hA
  obtain ⟨a0, c0, rfl⟩ := own_shape hO
  obtain ⟨a1, c1, rfl⟩ := own_shape hA
  have hB : Bf W w.heap.size (some ⟨b, 0, none⟩) O A := .inr ⟨_, _, _, rfl, h.out.buf⟩
  have stay : ∀ {e : Ending} {w' : World}, e = .returned (.bool true) ∧ Below W.heap.size W w' → e = .returned (.bool true) ∧ ∃ vl' cnt' n' xs' G' M' Z', Sta w w' b b2 bk bl vl' cnt' n' xs' G' M' Z' O A A2 A ∧ n' ≤ n + 2 ∧ (InRow cnt n xs G → InRow cnt' n' xs' G') :=
    fun hh => ⟨hh.1, _, _, _, _, _, _, _, h.out.below hh.2, by omega, id⟩
  by_cases k1 : kd = 1
  · subst k1
    refine (told1 _ a0 a1 c0 c1 vP bl vl n xs O A w.heap.size s o l i W h1 h2 h3 h4 bO bA bn h.out.bel.size hB hO hA h.out.hl h.out.ls).mono ?_
    rintro e w' ⟨vl', vp, vq, k, rfl, hT, hk⟩
    obtain ⟨G', M', Z', hS, g1, g2, g3⟩ := h.out.told hT hk
    refine ⟨rfl, _, _, _, _, _, _, _, hS, Nat.le_refl _, fun hr => ⟨by rw [hr.1], ?_⟩⟩
    rw [hr.2, List.range_succ, List.range_succ, List.map_append, List.map_append, List.append_assoc]
    congr 1
    · exact List.map_congr_left (fun k hk => (g1 (6 + k) (by have := List.mem_range.1 hk; omega)).symm)
    · simp only [List.map_cons, List.map_nil, List.cons_append, List.nil_append]
      rw [show 6 + cnt = cnt + 6 from by omega, show 6 + (cnt + 1) = cnt + 7 from by omega, g2, g3]
  by_cases k2 : kd = 2
  · subst k2; exact (told2 _ a0 a1 c0 c1 vP _ O A w.heap.size s o l i W h1 h2 h3 h4 bO bA hB hO hA).mono (fun _ _ hh => stay hh)
  by_cases k3 : kd = 3
  · subst k3; exact (told3 _ a0 a1 c0 c1 vP _ O A w.heap.size s o l i W h1 h2 h3 h4 bO bA hB hO hA).mono (fun _ _ hh => stay hh)
  by_cases k4 : kd = 4
  · subst k4; exact (told4 _ a0 a1 c0 c1 vP _ O A w.heap.size s o l i W h1 h2 h3 h4 h5 bO bA hB hO hA).mono (fun _ _ hh => stay hh)
  by_cases k5 : kd = 5
  · subst k5; exact (told5 _ a0 a1 c0 c1 vP _ O A w.heap.size s o l i W hB).mono (fun _ _ hh => stay hh)
  exact (told6 kd (by simpa using k1) (by simpa using k2) (by simpa using k3) (by simpa using k4) (by simpa using k5) _ a0 a1 c0 c1 vP _ O A w.heap.size s o l i W h1 h2 h3 h4 hB).mono (fun _ _ hh => stay hh)

/-- the first six lists, at the script's start -/
def gof (vo vo2 vk : Value) : Nat → Value
  | 0 => vo
  | 2 => vo2
  | 4 => vk
  | _ => .slice none 0 0
def mof (m : Nat) : Nat → Nat
  | 0 => m
  | 4 => m
  | _ => 0
def zof (O : List UInt8) : Nat → List Value
  | 0 => bv O
  | 4 => bv O
  | _ => []

theorem Sta.init {w w6 w7 : World} {base1 base2 b b2 : Nat} {vo vo2 vk : Value} {O : List UInt8} (B6 : BufAt w6 base1 b vo (.slice none 0 0) O []) (C6 : BufAt w6 base2 b2 vo2 (.slice none 0 0) [] []) (hL : Below w.heap.size w w6) (l1 : w.heap.size ≤ base1) (l2 : w.heap.size ≤ base2) (hb : b < base2)
    (hvo : ∀ g, vo.ownBlock = some g → g < base2) (hK : w7.ownsRow w6.heap.size 5 1 vk O.length (bv O)) (B67 : Below w6.heap.size w6 w7) :
    Sta w ((w7.alloc (.cells #[vk, .slice none 0 0] 30)).alloc (.cells #[.slice none 0 0] 31)) b b2 w7.heap.size (w7.heap.size + 1) (.slice none 0 0) 0 0 [] (gof vo vo2 vk) (mof O.length) (zof O) O [] [] [] := by
  have z1 := hL.size
  have z2 := B67.size
  have BB : Below w7.heap.size w7 ((w7.alloc (.cells #[vk, .slice none 0 0] 30)).alloc (.cells #[.slice none 0 0] 31)) := bAlloc (bAlloc (Below.refl _ _) _) _
  have B6W : Below w6.heap.size w6 ((w7.alloc (.cells #[vk, .slice none 0 0] 30)).alloc (.cells #[.slice none 0 0] 31)) := B67.trans (BB.mono z2)
  have nil5 : ∀ W : World, W.ownsRow w.heap.size 5 1 (.slice none 0 0) 0 [] := fun W => ⟨rfl, .inl ⟨rfl, rfl⟩⟩
  have o0 := own_lower (own_keep B6.orig B6W) l1
  have o2 := own_lower (own_keep C6.orig B6W) l2
  have o4 := own_lower (own_keep hK BB) z1
  have q2 : ∀ g, vo2.ownBlock = some g → base2 ≤ g ∧ g < w6.heap.size := fun g hg => C6.orig.lt g hg
  have q4 : ∀ g, vk.ownBlock = some g → w6.heap.size ≤ g := fun g hg => (hK.lt g hg).1
  have q0 : ∀ g, vo.ownBlock = some g → g < w6.heap.size := fun g hg => (B6.orig.lt g hg).2
  have sep : ∀ {u v : Value} {c : Nat}, (∀ g, u.ownBlock = some g → g < c) → (∀ g, v.ownBlock = some g → c ≤ g) → (u.ownBlock = none ∨ u.ownBlock ≠ v.ownBlock) ∧ (v.ownBlock = none ∨ v.ownBlock ≠ u.ownBlock) := fun {u v c} hu hv => by
    rcases e1 : u.ownBlock with _ | g
    · refine ⟨.inl rfl, ?_⟩
      rcases e2 : v.ownBlock with _ | q
      · exact .inl rfl
      · exact .inr (by simp)
    · have h1 := hu g e1
      rcases e2 : v.ownBlock with _ | q
      · exact ⟨.inr (by simp), .inl rfl⟩
      · have h2 := hv q e2
        exact ⟨.inr (by simp; omega), .inr (by simp; omega)⟩
  have s02 := sep (u := vo) (v := vo2) hvo (fun g hg => (q2 g hg).1)
  have s04 := sep (u := vo) (v := vk) q0 q4
  have s24 := sep (u := vo2) (v := vk) (fun g hg => (q2 g hg).2) q4
  have nn : (Value.slice none 0 0).ownBlock = none := rfl
  have hr : ∀ {v : Value}, v.ownBlock = none ∨ v.ownBlock ≠ (Value.slice none 0 0).ownBlock := fun {v} => by
    rcases e : v.ownBlock with _ | g
    · exact .inl rfl
    · exact .inr (by rw [nn]; simp)
  refine ⟨fun k hk => ?_, fun j k hj hk hjk => ?_, ⟨rfl, rfl⟩, ⟨rfl, rfl⟩, ⟨rfl, rfl⟩, ⟨rfl, rfl⟩, ⟨rfl, rfl⟩, ⟨rfl, rfl⟩, ?_, ?_, ?_, ?_, ?_, ⟨rfl, .inl ⟨rfl, rfl⟩⟩, ⟨by have := B6.lo; omega, by have := C6.lo; omega, by omega, by omega⟩, hL.trans (B6W.mono z1), fun k hk => by omega⟩
  · obtain rfl | rfl | rfl | rfl | rfl | rfl : k = 0 ∨ k = 1 ∨ k = 2 ∨ k = 3 ∨ k = 4 ∨ k = 5 := by omega
    · exact o0
    · exact nil5 _
    · exact o2
    · exact nil5 _
    · exact o4
    · exact nil5 _
  · obtain rfl | rfl | rfl | rfl | rfl | rfl : j = 0 ∨ j = 1 ∨ j = 2 ∨ j = 3 ∨ j = 4 ∨ j = 5 := by omega
    all_goals obtain rfl | rfl | rfl | rfl | rfl | rfl : k = 0 ∨ k = 1 ∨ k = 2 ∨ k = 3 ∨ k = 4 ∨ k = 5 := by omega
    all_goals first | exact absurd rfl hjk | exact .inl rfl | exact hr | exact s02.1 | exact s02.2 | exact s04.1 | exact s04.2 | exact s24.1 | exact s24.2
  · rw [B6W.block b (lt_of_heap B6.here)]; exact B6.here
  · rw [B6W.block b2 (lt_of_heap C6.here)]; exact C6.here
  · have := C6.lo; omega
  · exact (RowAt.new w7 _ 30).alloc _
  · simpa using RowAt.new (w7.alloc (.cells #[vk, .slice none 0 0] 30)) #[.slice none 0 0] 31

/-- the bytes of the first t texts of the script -/
def sumP (P : Nat → List UInt8) : Nat → Nat
  | 0 => 0
  | t + 1 => sumP P t + (P t).length
theorem sumP_mono (P : Nat → List UInt8) {s t : Nat} (h : s ≤ t) : sumP P s ≤ sumP P t := by
  induction h with
  | refl => exact Nat.le_refl _
  | step _ ih => exact Nat.le_trans ih (Nat.le_add_right _ _)

/-- what loop 2 keeps -/
def Mid (w W : World) (b b2 bk bl : Nat) (O : List UInt8) (P : Nat → List UInt8) (n : Nat) (x y : Value) : Prop :=
  ∃ (t : Nat) (r : Int) (cnt nn : Nat) (G : Nat → Value) (M : Nat → Nat) (Z : Nat → List Value) (A A2 : List UInt8) (vl : Value) (xs : List Value), t ≤ n ∧ x = .int .i64 r ∧ y = .int .i64 t ∧ 0 ≤ r ∧ r ≤ 16777216 ∧ nn ≤ 2 * t ∧ A.length ≤ sumP P t ∧ A2.length ≤ t ∧ InRow cnt nn xs G ∧ Sta w W b b2 bk bl vl cnt nn xs G M Z O A A2 A

theorem touch_row {W W' : World} {c k t : Nat} {row : Option Nat} {cs : Array Value} (ht : Touch W W' c row) (h : RowAt W k cs t) (h1 : k ≠ c) (h2 : some k ≠ row) : RowAt W' k cs t := by
  unfold RowAt; rw [ht.block k h.lt h1 h2]; exact h
theorem touch_own {W W' : World} {c base e size n : Nat} {row : Option Nat} {v : Value} {xs : List Value} (ht : Touch W W' c row) (h : W.ownsRow base e size v n xs) (h1 : some c ≠ v.ownBlock) (h2 : ∀ k, row = some k → v.ownBlock ≠ some k) : W'.ownsRow base e size v n xs :=
  own_same h (fun g hg hlt => ht.block g hlt (fun e => by subst e; exact h1 hg.symm) (fun e => h2 g e.symm hg))
theorem rd_mk {W : World} {base g cap : Nat} {l : List UInt8} (h : W.ownsRow base 5 1 (.slice (some ⟨g, 0, none⟩) (l.length + 2) cap) (l.length + 2) (bv l ++ mk2)) : Rd W (.slice (some ⟨g, 0, none⟩) l.length cap) l := by
  refine .inr ⟨_, cap, rfl, fun j u hu => ?_⟩
  have hj : j < l.length := by have := (List.getElem?_eq_some_iff.1 hu).1; rw [bv_length] at this; exact this
  have hadd : (⟨g, 0, none⟩ : Addr).add j = ⟨g, j, none⟩ := by unfold Addr.add; split <;> simp_all
  rw [hadd, h.cellAt j (by omega), List.getElem?_append_left (by rw [bv_length]; exact hj)]; exact hu

/-- append of a list that can be read, and where its answer lies -/
theorem append_src_at {w : World} {ops : Array Oper} {rest : List Oper} {o : Oper} {a : Act} {Q : Exit → Act → World → Prop} (hgd : o.guard = none) (s x : Operand) (t : TypeId)
    (ho : o.op = .call { callee := .builtin .append, args := #[s, x], argTypes := #[t, t] })
    (base : Nat) (e : TypeId) (i : TypeInfo) (z : Value) (size bytes : Nat) (ht : Try.prog.underlying t = some (.slice e)) (hi : Try.prog.info? e = some i) (hz : i.zero = some z)
    (hsize : i.size = size) (hby : i.bytes = bytes) (hzs : z.cells.size = size) (hsz : 0 < size)
    (v : Value) (n : Nat) (xs : List Value) (hs : a.eval s = v) (hown : w.ownsRow base e size v n xs)
    (ao : Option Addr) (m c : Nat) (news : List Value) (hx : a.eval x = .slice ao m c) (hl : news.length = m * size)
    (hnews : (ao = none ∧ m = 0 ∧ c = 0) ∨ ∃ ad, ao = some ad ∧ ∀ j u, news[j]? = some u → w.cell? (ad.add j) = some u) (h1 : ∀ u ∈ news, u.oneCell' = true)
    (h63 : n + m ≤ maxLen) (hbytes : (n + m) * bytes ≤ 140737488355328) (hbase : base ≤ w.heap.size)
    (h : ∀ v' w', w'.ownsRow base e size v' (n + m) (xs ++ news) → w.grownBy w' v.ownBlock → (v'.ownBlock = v.ownBlock ∨ ∃ q, v'.ownBlock = some q ∧ w.heap.size ≤ q) → wpList Try.prog ops Q rest (a.put o.dst v') w') : wpList Try.prog ops Q (o :: rest) a w := by
  rcases hnews with ⟨rfl, rfl, rfl⟩ | ⟨ad, rfl, hnews⟩
  · have hn : news = [] := List.eq_nil_of_length_eq_zero (by omega)
    subst hn
    refine wpList_append_own_none hgd s x t ho base e i size ht hi v n xs hs hown hx (h v w (by simpa using hown) ⟨rfl, rfl, rfl, Nat.le_refl _, fun _ _ _ => rfl⟩ (.inl rfl))
  · exact wpList_append_own_at w hgd s x t ho base e i z size bytes ht hi hz hsize hby hzs hsz v n xs hs hown ad m c news hx hl hnews h1 h63 hbytes hbase (fun v' w' h2 h3 _ h4 => h v' w' h2 h3 (h4.elim .inl (fun e => .inr ⟨_, e, by omega⟩)))

theorem InRow.upd {cnt n : Nat} {xs : List Value} {G : Nat → Value} (h : InRow cnt n xs G) {i : Nat} (hi : i < 6) (v : Value) : InRow cnt n xs (upd G i v) :=
  ⟨h.1, h.2.trans (List.map_congr_left (fun k _ => by rw [upd_ne _ _ (by omega)]))⟩
end Go.Proofs.Ytfjfflkdcmpgnaa
