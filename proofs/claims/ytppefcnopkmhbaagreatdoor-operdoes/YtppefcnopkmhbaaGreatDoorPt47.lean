/- Mny, Lsm, Smc, Ftx, Ldk -/
import Derived.Test.YtppefcnopkmhbaaGreatDoorPt46
import Derived.Test.YtppefcnopkmhbaaGreatDoorPt39
import Derived.Test.YtppefcnopkmhbaaGreatDoorPt40
import Derived.Test.YtppefcnopkmhbaaGreatDoorPt00
import Derived.Test.YtppefcnopkmhbaaGreatDoorPt14
namespace Go.Proofs.YtppefcnopkmhbaaGreatDoor
open Go.RowKit

set_option maxRecDepth 8000
theorem Wb.lx {W : World} {lo hi : Nat} {v : Value} {l : List UInt8} (h : Wb W lo hi v l) : Lx W lo v l.length (bv l) := by
  refine ⟨by rw [bv_length]; omega, ?_⟩
  rcases h with ⟨h1, rfl⟩ | ⟨g, cap, cur, h1, h2, _, h3, h4, h5, h6, h7⟩
  · exact .inl ⟨h1, rfl⟩
  · exact .inr ⟨g, cap, cur, h1, h2, h3, h4, h5, h6, by rw [Nat.mul_one]; exact h7⟩
/-- the lists of bytes of an effect -/
def lis (tv : Value) (T : List UInt8) (F : List Er) : List (Value × List UInt8) := (tv, T) :: tes F
theorem lis_len (tv : Value) (T : List UInt8) (F : List Er) : (lis tv T F).length = 1 + F.length * 2 := by unfold lis; rw [List.length_cons, tes_len]; omega
theorem lis_fst (tv : Value) (T : List UInt8) (F : List Er) : (lis tv T F).map (·.1) = tv :: (tes F).map (·.1) := rfl
theorem Efm.wb {W : World} {lo hi : Nat} {v tv : Value} {F : List Er} {T : List UInt8} (h : Efm W lo hi v F tv T) {k : Nat} {x : Value × List UInt8} (hx : (lis tv T F)[k]? = some x) : Wb W lo hi x.1 x.2 := by
  cases k with
  | zero => simp [lis] at hx; subst hx; exact h.tx
  | succ k => exact h.eds.tx k x (by simpa [lis] using hx)
theorem Far.comm {a b : Value} (h : Far a b) : Far b a := fun g h1 h2 => h g h2 h1
theorem Efm.fars {W : World} {lo hi : Nat} {v tv : Value} {F : List Er} {T : List UInt8} (h : Efm W lo hi v F tv T) {i j : Nat} {x y : Value × List UInt8} (hij : i ≠ j) (hx : (lis tv T F)[i]? = some x) (hy : (lis tv T F)[j]? = some y) : Far x.1 y.1 := by
  cases i with
  | zero =>
    simp [lis] at hx
    subst hx
    cases j with
    | zero => exact absurd rfl hij
    | succ j => exact h.far j y (by simpa [lis] using hy)
  | succ i =>
    have hx' : (tes F)[i]? = some x := by simpa [lis] using hx
    cases j with
    | zero =>
      simp [lis] at hy
      subst hy
      exact (h.far i x hx').comm
    | succ j => exact h.eds.far i j x y (by omega) hx' (by simpa [lis] using hy)
/-- a world with lists of bytes, each in memory of its own -/
structure Fars (W : World) (lo hi : Nat) (L : List (Value × List UInt8)) : Prop where
  wb : ∀ (k : Nat) (x : Value × List UInt8), L[k]? = some x → Wb W lo hi x.1 x.2
  far : ∀ (i j : Nat) (x y : Value × List UInt8), i ≠ j → L[i]? = some x → L[j]? = some y → Far x.1 y.1
theorem Efm.fs {W : World} {lo hi : Nat} {v tv : Value} {F : List Er} {T : List UInt8} (h : Efm W lo hi v F tv T) : Fars W lo hi (lis tv T F) := ⟨fun _ _ hx => h.wb hx, fun _ _ _ _ hij hx hy => h.fars hij hx hy⟩
theorem Fars.keep {W W' : World} {lo hi : Nat} {L : List (Value × List UInt8)} (h : Fars W lo hi L) (hb : Below W.heap.size W W') : Fars W' lo hi L := ⟨fun k x hx => (h.wb k x hx).keep hb, h.far⟩
theorem Fars.app {W : World} {lo mid hi : Nat} {A B : List (Value × List UInt8)} (h : Fars W lo mid A) (k : Fars W mid hi B) (h1 : lo ≤ mid) (h2 : mid ≤ hi) : Fars W lo hi (A ++ B) := by
  have hl : ∀ (i : Nat) (x : Value × List UInt8), (A ++ B)[i]? = some x → (i < A.length ∧ A[i]? = some x) ∨ (A.length ≤ i ∧ B[i - A.length]? = some x) := fun i x hx => by
    rcases Nat.lt_or_ge i A.length with hi | hi
    · rw [List.getElem?_append_left hi] at hx; exact .inl ⟨hi, hx⟩
    · rw [List.getElem?_append_right hi] at hx; exact .inr ⟨hi, hx⟩
  refine ⟨fun i x hx => ?_, fun i j x y hij hx hy => ?_⟩
  · rcases hl i x hx with ⟨_, e⟩ | ⟨_, e⟩
    · exact (h.wb i x e).wide (Nat.le_refl _) h2
    · exact (k.wb _ x e).wide h1 (Nat.le_refl _)
  · rcases hl i x hx with ⟨_, e⟩ | ⟨hi, e⟩ <;> rcases hl j y hy with ⟨_, e'⟩ | ⟨hj, e'⟩
    · exact h.far i j x y hij e e'
    · exact (h.wb i x e).far (k.wb _ y e') (.inl (Nat.le_refl _))
    · exact ((h.wb j y e').far (k.wb _ x e) (.inl (Nat.le_refl _))).comm
    · exact k.far _ _ x y (by omega) e e'
def dfl : Value × List UInt8 := (.slice none 0 0, [])
theorem far_or {a b : Value} (h : Far a b) : a.ownBlock = none ∨ a.ownBlock ≠ b.ownBlock := by
  rcases ha : a.ownBlock with _ | g
  · exact .inl rfl
  · exact .inr (fun e => h g ha e.symm)
theorem Fars.many {W : World} {lo : Nat} {L : List (Value × List UInt8)} (h : Fars W lo W.heap.size L) :
    Many W W lo L.length (fun k => (L.getD k dfl).1) (fun _ => 0) mkA (fun k => (L.getD k dfl).1) (fun k => (L.getD k dfl).2.length) (fun k => bv (L.getD k dfl).2) := by
  have hg : ∀ k, k < L.length → L[k]? = some (L.getD k dfl) := fun k hk => by rw [List.getD_eq_getElem?_getD, List.getElem?_eq_getElem hk]; rfl
  refine ⟨fun k hk => (h.wb k _ (hg k hk)).lx, fun j k hj hk hjk => far_or (h.far j k _ _ hjk (hg j hj) (hg k hk)), fun k _ j hj => absurd hj (Nat.not_lt_zero _), fun j k hj hk hjk => far_or (h.far k j _ _ (Ne.symm hjk) (hg k hk) (hg j hj)), fun k _ => Nat.zero_le _, fun k hk g he => ((h.wb k _ (hg k hk)).up he).2.2, fun k _ => .inl rfl, Nat.le_refl _, ⟨rfl, rfl, rfl⟩, fun k _ _ => rfl⟩
theorem fst_range (L : List (Value × List UInt8)) : (List.range L.length).map (fun k => (L.getD k dfl).1) = L.map (·.1) := by
  apply List.ext_getElem?
  intro k
  rw [List.getElem?_map, List.getElem?_map]
  rcases Nat.lt_or_ge k L.length with hk | hk
  · rw [List.getElem?_range hk, List.getElem?_eq_getElem hk]
    simp [List.getD_eq_getElem?_getD, hk]
  · rw [List.getElem?_eq_none (by simpa using hk), List.getElem?_eq_none hk]
    rfl
/-- apart, asked of lists in memory of their own -/
theorem apart_any (al : Option Addr) (cl m lo : Nat) (L : List (Value × List UInt8)) (w : World) (hm : L.length = m) (hmb : m ≤ 33554432) (hN : ∀ x ∈ L, x.2.length ≤ 4294967296) (hlo : lo ≤ w.heap.size) (hF : Fars w lo w.heap.size L) (hO : w.ownsRow lo 22 1 (.slice al m cl) m (L.map (·.1))) :
    Calls Tryz.prog 14 #[.slice al m cl] w fun e w' => e = .returned (.bool true) ∧ Below lo w w' ∧ ∀ (B e : Nat) (cs : Array Value), e ≠ 5 → Blk w B e cs → Blk w' B e cs := by
  subst hm
  refine (apart_walk al cl L.length _ _ _ lo w hmb (fun k hk => ?_) hlo (by unfold Hid; rw [fst_range]; exact hO) hF.many).mono ?_
  · have hg : L[k]? = some (L.getD k dfl) := by rw [List.getD_eq_getElem?_getD, List.getElem?_eq_getElem hk]; rfl
    exact hN _ (List.mem_of_getElem? hg)
  · rintro e w' ⟨rfl, h1, h2, h3, h4, h5⟩
    refine ⟨rfl, ⟨h1, h2, h3, h4, fun k hk => h5 k (by omega) (fun j hj e => ?_)⟩, fun B e cs he hB => ?_⟩
    case refine_2 =>
      unfold Blk
      rw [h5 B hB.lt (fun j hj e2 => ?_)]
      · exact hB
      · have hg : L[j]? = some (L.getD j dfl) := by rw [List.getD_eq_getElem?_getD, List.getElem?_eq_getElem hj]; rfl
        rcases hF.wb j _ hg with ⟨e3, _⟩ | ⟨g, cap, cur, e3, _, _, h6, _⟩
        · rw [e3] at e2
          cases e2
        · rw [e3] at e2
          injection e2 with e2
          subst e2
          unfold Blk at h6 hB
          rw [h6] at hB
          simp at hB
          exact he hB.2.symm
    have hg : L[j]? = some (L.getD j dfl) := by rw [List.getD_eq_getElem?_getD, List.getElem?_eq_getElem hj]; rfl
    have := ((hF.wb j _ hg).up e).1
    omega
end Go.Proofs.YtppefcnopkmhbaaGreatDoor

namespace Go.Proofs.YtppefcnopkmhbaaGreatDoor
open Go.RowKit

set_option maxRecDepth 8000
theorem fit_osum {l : List UInt8} {x : Ef} {z : Int} (h : FitB l (x, z)) (hl : l.length ≤ 65536) : osum x.es ≤ 1073807360 := by
  have hs := h.sum
  dsimp only at hs
  rcases h.fit with ⟨_, e⟩ | ⟨_, U, hU, _⟩
  · dsimp only at e; rw [e]; exact Nat.zero_le _
  · dsimp only at hU
    have := app_len hU
    omega
theorem tes_small {F : List Er} {A : Nat} (h1 : nsum (F.map Er.d) ≤ A) (h2 : osum (F.map Er.d) ≤ A) : ∀ p ∈ tes F, p.2.length ≤ A := by
  induction F with
  | nil => intro p hp; cases hp
  | cons r F ih =>
    have e1 : nsum ((r :: F).map Er.d) = r.N.length + nsum (F.map Er.d) := by simp [nsum, Er.d]
    have e2 : osum ((r :: F).map Er.d) = r.O.length + osum (F.map Er.d) := by simp [osum, Er.d]
    rw [e1] at h1
    rw [e2] at h2
    intro p hp
    rcases List.mem_append.1 (show p ∈ [(.slice r.p1 r.o r.c1, r.O), (.slice r.p2 r.n r.c2, r.N)] ++ tes F from hp) with hp | hp
    · simp at hp
      rcases hp with rfl | rfl
      · show r.O.length ≤ A; omega
      · show r.N.length ≤ A; omega
    · exact ih (by omega) (by omega) p hp
theorem lis_small {F : List Er} {es : List Ed} (hF : F.map Er.d = es) {A : Nat} {tv : Value} {T : List UInt8} (h1 : nsum es ≤ A) (h2 : osum es ≤ A) (hT : T.length ≤ A) : ∀ p ∈ lis tv T F, p.2.length ≤ A := by
  subst hF
  intro p hp
  rcases List.mem_cons.1 (show p ∈ (tv, T) :: tes F from hp) with rfl | hp
  · exact hT
  · exact tes_small h1 h2 p hp
theorem tes_one (F : List Er) : ∀ u ∈ (tes F).map (·.1), u.oneCell' = true := by
  induction F with
  | nil => intro u hu; cases hu
  | cons r F ih =>
    intro u hu
    rcases List.mem_append.1 (show u ∈ [.slice r.p1 r.o r.c1, .slice r.p2 r.n r.c2] ++ (tes F).map (·.1) from by rw [← show (tes (r :: F)).map (·.1) = [.slice r.p1 r.o r.c1, .slice r.p2 r.n r.c2] ++ (tes F).map (·.1) from rfl]; exact hu) with hu | hu
    · simp at hu
      rcases hu with rfl | rfl <;> rfl
    · exact ih u hu
/-- append of lists of one's own to lists of one's own -/
theorem app_ls {w : World} (base b2 : Nat) (v : Value) (n : Nat) (xs : List Value) (hown : w.ownsRow base 22 1 v n xs) (u : Value) (m : Nat) (ys : List Value) (hu : w.ownsRow b2 22 1 u m ys) (hm : 0 < m) (h1 : ∀ u ∈ ys, u.oneCell' = true) (hb : (n + m) * 24 ≤ 140737488355328) (hbase : base ≤ w.heap.size) :
    ∃ v' w', (∀ ty, (Builtin.append_ #[26, 26] ty #[v, u]).run Tryz.prog w = .ok v' w') ∧ w'.ownsRow base 22 1 v' (n + m) (xs ++ ys) ∧ w.grownBy w' v.ownBlock := by
  obtain ⟨i22, hi22, hz22, hs22, hb22⟩ := info_parts info22
  rcases own_srv hu with ⟨_, h0, _⟩ | ⟨ad, c, rfl, hc⟩
  · omega
  · obtain ⟨v', w', hr, h2, h3, h4, h5⟩ := run_append_own_at (P := Tryz.prog) w base 26 26 22 i22 _ 1 24 Tryz.underlying26 hi22 hz22 hs22 hb22 rfl (by decide) v n xs hown ad m c ys (by have := hu.1; omega) hc h1 (by unfold maxLen; omega) hb hbase
    exact ⟨v', w', fun ty => hr, h2, h3⟩
theorem ow_app2 {o : Oper} {a : Act} {w : World} {K : Act → World → Prop} {Q : Exit → Act → World → Prop} (t : Nat) (d s : Operand)
    (ho : o.op = .call { callee := .builtin .append, args := #[d, s], argTypes := #[t, t] }) (v u : Value) (hd : a.eval d = v) (hs : a.eval s = u) {v' : Value} {w' : World}
    (hr : ∀ ty, (Builtin.append_ #[t, t] ty #[v, u]).run Tryz.prog w = .ok v' w') (h : K (a.put o.dst v') w') : Oper.wp Tryz.prog o a w K Q := by
  unfold Oper.wp execOp
  simp only [ho, resolve, invoke, builtin, Sem.run_bind, Sem.run_pure, Result.andThen_ok, List.map_toArray, List.map_cons, List.map_nil, hd, hs, hr]
  exact h
end Go.Proofs.YtppefcnopkmhbaaGreatDoor

namespace Go.Proofs.YtppefcnopkmhbaaGreatDoor
open Go.RowKit

set_option maxRecDepth 8000
end Go.Proofs.YtppefcnopkmhbaaGreatDoor

namespace Go.Proofs.YtppefcnopkmhbaaGreatDoor
open Go.RowKit

set_option maxRecDepth 8000
theorem shX_txt (l : List UInt8) (o : Option (List Ed)) (a : Nat) : (shX l o a).1.txt = [] := by
  cases o <;> rfl
theorem do_txt (l : List UInt8) (at' : Int) (s : ByteArray) (F T : Int) (L D : Bool) (q : Int) : (doX l at' s F T L D q).1.txt.length ≤ l.length + 1 := by
  have hk : ∀ f t L D, (tk l f t L D).length ≤ l.length + 1 := fun f t L D => tk_len _ _ _ _ _
  unfold doX
  split
  · exact Nat.zero_le _
  split
  · exact Nat.zero_le _
  unfold opX
  split
  · exact hk _ _ _ _
  split
  · unfold cEf
    split
    · exact hk _ _ _ _
    split
    · exact Nat.zero_le _
    · exact hk F.toNat T.toNat false D
  split
  · exact hk _ _ _ _
  split
  · rw [shX_txt]; exact Nat.zero_le _
  split
  · rw [shX_txt]; exact Nat.zero_le _
  split
  · exact Nat.zero_le _
  split <;> exact Nat.zero_le _
end Go.Proofs.YtppefcnopkmhbaaGreatDoor

namespace Go.Proofs.YtppefcnopkmhbaaGreatDoor
open Go.RowKit

set_option maxRecDepth 8000
structure Ak where
  at' : Int
  q : Int
  s : ByteArray
  F : Int
  T : Int
  L : Bool
  D : Bool
/-- a row of what Do is asked -/
def Akz (W : World) (so : Option Addr) (K : List Ak) : Prop := ∀ (k : Nat) (r : Ak), K[k]? = some r → ∃ g o, so = some ⟨g, o, none⟩ ∧ W.cell? ⟨g, o + k * 7, none⟩ = some (.int .i64 r.at') ∧ W.cell? ⟨g, o + k * 7 + 1, none⟩ = some (.int .i64 r.q) ∧ W.cell? ⟨g, o + k * 7 + 2, none⟩ = some (.string r.s) ∧ W.cell? ⟨g, o + k * 7 + 3, none⟩ = some (.int .i64 r.F) ∧ W.cell? ⟨g, o + k * 7 + 4, none⟩ = some (.int .i64 r.T) ∧ W.cell? ⟨g, o + k * 7 + 5, none⟩ = some (.bool r.L) ∧ W.cell? ⟨g, o + k * 7 + 6, none⟩ = some (.bool r.D)
theorem Akz.keep {W W' : World} {so : Option Addr} {K : List Ak} (h : Akz W so K) (hb : Below W.heap.size W W') : Akz W' so K := fun k r hk => by
  obtain ⟨g, o, h0, h1, h2, h3, h4, h5, h6, h7⟩ := h k r hk
  exact ⟨g, o, h0, by rw [hb.cell (lt_of_cell h1)]; exact h1, by rw [hb.cell (lt_of_cell h2)]; exact h2, by rw [hb.cell (lt_of_cell h3)]; exact h3, by rw [hb.cell (lt_of_cell h4)]; exact h4, by rw [hb.cell (lt_of_cell h5)]; exact h5, by rw [hb.cell (lt_of_cell h6)]; exact h6, by rw [hb.cell (lt_of_cell h7)]; exact h7⟩
end Go.Proofs.YtppefcnopkmhbaaGreatDoor
