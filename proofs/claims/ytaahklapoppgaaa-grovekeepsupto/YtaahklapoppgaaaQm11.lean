/- change.Size, change.First, and the reference's. -/
import Derived.Test.YtaahklapoppgaaaQm10
import Derived.Test.YtaahklapoppgaaaQm00
import Derived.Test.YtaahklapoppgaaaQm06
import Derived.Laws.IdiomCopy
namespace Go.Proofs.Ytaahklapoppgaaa
open Go.RowKit

set_option maxRecDepth 8000
/-- how much longer, as a machine reckons it -/
def sz (D : List Ed) : Int := D.foldl (fun s d => IntKind.i64.wrap (s + ((d.N.length : Int) - (d.O.length : Int)))) 0
theorem sz_snoc (D : List Ed) (d : Ed) : sz (D ++ [d]) = IntKind.i64.wrap (sz D + ((d.N.length : Int) - (d.O.length : Int))) := by simp [sz]
/-- the least place -/
def fst : List Ed → Int
  | [] => 0
  | d :: D => D.foldl (fun m e => min m e.a) d.a
theorem fst_snoc {D : List Ed} (h : D ≠ []) (d : Ed) : fst (D ++ [d]) = min (fst D) d.a := by
  cases D with
  | nil => exact absurd rfl h
  | cons x D => simp [fst]
theorem cells38 : (Try.prog.info? 77).map (·.size) = some 3 := by kernel_rfl
theorem size38 (w : World) : (sizeOf 77).run Try.prog w = .ok 3 w := by kernel_rfl
theorem elem23 : Try.prog.elem 38 = 77 := by kernel_rfl
theorem und23 : Try.prog.underlying 38 = some (.slice (Try.prog.elem 38)) := by kernel_rfl
/-- edits[1:] -/
theorem sl_e {eo : Option Addr} {en ec : Nat} {E : List Er} (hl : E.length = en) (h1 : 1 ≤ en) (hc : en ≤ ec) : ∃ a' c', (∀ W, (Instr.sliceAt 38 (.slice eo en ec) (some (.int .i64 1)) none none).run Try.prog W = .ok (.slice a' (en - 1) c') W) ∧ ∀ W, Edr W eo E → Edr W a' (E.drop 1) := by
  have hr : ∀ W, (Instr.sliceAt 38 (.slice eo en ec) (some (.int .i64 1)) none none).run Try.prog W = .ok (sliced eo 1 en ec 3) W := fun W => by
    rw [run_sliceAt_slice W 38 _ _ _ _ und23, run_slice_l W 38 eo en ec und23 .i64 1 (by omega) (by omega), elem23, size38]
    rfl
  by_cases hcl : ec = 1
  · refine ⟨eo, ec - 1, fun W => ?_, fun W _ k r hk => ?_⟩
    · rw [hr W]; unfold sliced; rw [if_pos hcl]
    · rw [List.drop_eq_nil_of_le (by omega)] at hk; simp at hk
  · refine ⟨eo.map (·.add 3), ec - 1, fun W => ?_, fun W hE k r hk => ?_⟩
    · rw [hr W]; unfold sliced; rw [if_neg hcl]
    · rw [List.getElem?_drop] at hk
      obtain ⟨g, o, h0, t0, t1, t2⟩ := hE (1 + k) r hk
      refine ⟨g, o + 3, ?_, ?_, ?_, ?_⟩
      · rw [h0]; simp [Addr.add]
      · rw [show o + 3 + k * 3 = o + (1 + k) * 3 by omega]; exact t0
      · rw [show o + 3 + k * 3 = o + (1 + k) * 3 by omega]; exact t1
      · rw [show o + 3 + k * 3 = o + (1 + k) * 3 by omega]; exact t2
set_option maxHeartbeats 4000000 in
theorem first_any (eo : Option Addr) (en ec : Nat) (E : List Er) (w : World) (HE : Hid (Edz w eo E)) (hn : E.length = en) (heb : en ≤ 140737488355328) (hc : en ≤ ec) :
    Calls Try.prog 76 #[.slice eo en ec] w fun e w' => e = .returned (.int .i64 (fst (E.map Er.d))) ∧ Below w.heap.size w w' := by
  have HN := mkH hn
  by_cases h0 : en = 0
  · subst h0
    have : E = [] := List.eq_nil_of_length_eq_zero hn
    subst this
    clear hn
    go_enter Try.func76, Try.ntmps76
    go_wp2
    go_ret
    exact ⟨rfl, Below.refl _ _⟩
  · have hz : ¬ ((en : Int) = 0) := by omega
    obtain ⟨a1, c1, hs1, hE1⟩ := sl_e (eo := eo) hn (by omega) hc
    have HE1 := mkH hE1
    obtain ⟨r0, hr0⟩ : ∃ r, E[0]? = some r := ⟨_, List.getElem?_eq_getElem (by omega)⟩
    obtain ⟨g0, o0, rfl, h30⟩ := HE.out.row.ed3 hr0
    have s0 := h30.e0
    rw [Nat.zero_mul, Nat.add_zero] at s0
    have hpos : (0 : Int) < (en : Int) := by omega
    obtain ⟨n1, hn1⟩ : ∃ n1, n1 = en - 1 := ⟨_, rfl⟩
    rw [← hn1] at hs1
    have HN1 := mkH hn1
    obtain ⟨A0, hA0⟩ : ∃ A0, A0 = r0.a := ⟨_, rfl⟩
    rw [← hA0] at s0
    have HA0 : Hid (A0 = fst ((E.map Er.d).take 1)) := by
      unfold Hid
      have := map_take hr0
      rw [Nat.zero_add, List.take_zero, List.nil_append] at this
      rw [this, hA0]; rfl
    have hb1 : n1 ≤ 140737488355328 := by omega
    clear hn h30 hE1 hn1 hA0 hr0
    go_enter Try.func76, Try.ntmps76
    go_wp2_with fail
    go_loopg [3, 5, 16] n1 (fun m x3 x5 x16 wx => ∃ (i : Nat) (s : Int), x16 = .int .i64 (i : Int) ∧ x3 = .int .i64 s ∧ i + m = n1 ∧ Hid (s = fst ((E.map Er.d).take (i + 1))) ∧ Hid (Below w.heap.size w wx))
    case atStart => exact ⟨0, A0, rfl, rfl, by omega, HA0.out, Below.refl _ _⟩
    case round =>
      obtain ⟨i, s, rfl, rfl, him, HF, KB⟩ := hrel
      obtain ⟨go, hgo⟩ : ∃ g, g = gk - 1 := ⟨_, rfl⟩
      by_cases hi : i < n1
      · have hi' : (i : Int) < (n1 : Int) := by omega
        have hi0 : (0 : Int) ≤ (i : Int) := by omega
        obtain ⟨r, hr⟩ : ∃ r, E[1 + i]? = some r := ⟨_, List.getElem?_eq_getElem (by have := HN.out; have := HN1.out; omega)⟩
        obtain ⟨g, o, rfl, h3⟩ := (HE1.out w HE.out.row).ed3 (k := i) (r := r) (by rw [List.getElem?_drop]; exact hr)
        have h4 := h3.keep KB.out
        have hts : fst ((E.map Er.d).take (i + 1 + 1)) = min s r.a := by
          rw [map_take (i := i + 1) (by rw [Nat.add_comm]; exact hr), fst_snoc (fun e => by
            have h9 := congrArg List.length e
            rw [List.length_take, List.length_map, List.length_nil] at h9
            have := HN.out; have := HN1.out
            omega), ← HF.out]
          rfl
        obtain ⟨ra, rp1, ro, rc1, rO, rp2, rn, rc2, rN⟩ := r
        dsimp only at h4 hts
        have t0 := h4.e0
        have t1 := h4.e1
        have t2 := h4.e2
        obtain ⟨s2, hs2⟩ : ∃ s2, min s ra = s2 := ⟨_, rfl⟩
        have HT : Hid (s2 = fst ((E.map Er.d).take (i + 1 + 1))) := by unfold Hid; rw [hts, hs2]
        have hw8 : IntKind.i64.wrap ((i : Int) + 1) = ((i + 1 : Nat) : Int) := by rw [IntKind.wrap_i64]; omega
        have BA := mkH (bT KB.out (bAlloc (Below.refl _ wr) (.cells #[.int .i64 ra, .slice rp1 ro rc1, .slice rp2 rn rc2] 77)))
        clear hr h3 h4 hts s0
        go_wp2
        go_roundg go
        case measure => omega
        case rel => exact ⟨i + 1, s2, by go_num, rfl, by omega, HT.out, BA.out⟩
      · have hi' : ¬ (i : Int) < (n1 : Int) := by omega
        have HF2 : Hid (s = fst (E.map Er.d)) := by
          have h1 := HF.out
          rw [List.take_of_length_le (by rw [List.length_map]; have := HN.out; have := HN1.out; omega)] at h1
          exact h1
        clear hgo HF
        go_wp2
        go_ret
        exact ⟨by rw [← HF2.out]; rfl, KB.out⟩
set_option maxHeartbeats 4000000 in
theorem rfirst_any (eo : Option Addr) (en ec : Nat) (E : List Er) (w : World) (HE : Hid (Edz w eo E)) (hn : E.length = en) (heb : en ≤ 140737488355328) :
    Calls Try.prog 74 #[.slice eo en ec] w fun e w' => e = .returned (.int .i64 (fst (E.map Er.d))) ∧ Below w.heap.size w w' := by
  have HN := mkH hn
  clear hn
  go_enter Try.func74, Try.ntmps74
  go_wp2_with fail
  go_loopg [3, 4] en (fun m x3 x4 wx => ∃ (i : Nat) (s : Int), x4 = .int .i64 (i : Int) ∧ x3 = .int .i64 s ∧ i + m = en ∧ Hid (s = fst ((E.map Er.d).take i)) ∧ Hid (Below w.heap.size w wx))
  case atStart => exact ⟨0, 0, rfl, rfl, by omega, rfl, Below.refl _ _⟩
  case round =>
    obtain ⟨i, s, rfl, rfl, him, HF, KB⟩ := hrel
    obtain ⟨go, hgo⟩ : ∃ g, g = gk - 1 := ⟨_, rfl⟩
    by_cases hi : i < en
    · have hi' : (i : Int) < (en : Int) := by omega
      have hi0 : (0 : Int) ≤ (i : Int) := by omega
      obtain ⟨r, hr⟩ : ∃ r, E[i]? = some r := ⟨_, List.getElem?_eq_getElem (by have := HN.out; omega)⟩
      obtain ⟨g, o, rfl, h3⟩ := HE.out.row.ed3 hr
      have h4 := h3.keep KB.out
      have hmt := map_take hr
      obtain ⟨ra, rp1, ro, rc1, rO, rp2, rn, rc2, rN⟩ := r
      dsimp only at h4
      have t0 := h4.e0
      have hw8 : IntKind.i64.wrap ((i : Int) + 1) = ((i + 1 : Nat) : Int) := by rw [IntKind.wrap_i64]; omega
      by_cases hz : i = 0
      · have HT : Hid (ra = fst ((E.map Er.d).take (i + 1))) := by unfold Hid; rw [hmt, hz]; rfl
        have hz' : ((i : Int) == 0) = true := by rw [hz]; rfl
        have hz2 : (i : Int) = 0 := by omega
        have t9 : wr.cell? ⟨g, o, none⟩ = some (.int .i64 ra) := by rw [hz] at t0; simpa using t0
        clear hr h3 h4 hmt t0
        subst hz
        go_wp2
        go_roundg go
        case measure => omega
        case rel => exact ⟨0 + 1, ra, by go_num, rfl, by omega, HT.out, KB.out⟩
      · have hz1 : ¬ (i : Int) = 0 := by omega
        have hz2 : ((i : Int) == 0) = false := by simpa using hz
        have hts : fst ((E.map Er.d).take (i + 1)) = min s ra := by
          rw [hmt, fst_snoc (fun e => by
            have h9 := congrArg List.length e
            rw [List.length_take, List.length_map, List.length_nil] at h9
            have := HN.out
            omega), ← HF.out]
          rfl
        by_cases hlt : ra < s
        · have HT : Hid (ra = fst ((E.map Er.d).take (i + 1))) := by unfold Hid; rw [hts]; omega
          clear hr h3 h4 hmt hts
          go_wp2
          go_roundg go
          case measure => omega
          case rel => exact ⟨i + 1, ra, by go_num, rfl, by omega, HT.out, KB.out⟩
        · have HT : Hid (s = fst ((E.map Er.d).take (i + 1))) := by unfold Hid; rw [hts]; omega
          clear hr h3 h4 hmt hts
          go_wp2
          go_roundg go
          case measure => omega
          case rel => exact ⟨i + 1, s, by go_num, rfl, by omega, HT.out, KB.out⟩
    · have hi' : ¬ (i : Int) < (en : Int) := by omega
      have HF2 : Hid (s = fst (E.map Er.d)) := by
        have h1 := HF.out
        rw [List.take_of_length_le (by rw [List.length_map]; have := HN.out; omega)] at h1
        exact h1
      clear hgo HF
      go_wp2
      go_ret
      exact ⟨by rw [← HF2.out]; rfl, KB.out⟩
end Go.Proofs.Ytaahklapoppgaaa

/- Histories as plain data: what is right; a change more; crossings; the way from one change to another. -/
namespace Go.Proofs.Ytaahklapoppgaaa

/-- truth as a bool -/
noncomputable def tb (p : Prop) : Bool := @decide p (Classical.propDecidable p)
theorem tb_t {p : Prop} (h : p) : tb p = true := by unfold tb; exact @decide_eq_true p (Classical.propDecidable p) h
theorem tb_f {p : Prop} (h : ¬ p) : tb p = false := by unfold tb; exact @decide_eq_false p (Classical.propDecidable p) h
theorem tb_iff {p q : Prop} (h : p ↔ q) : tb p = tb q := by
  by_cases hp : p
  · rw [tb_t hp, tb_t (h.1 hp)]
  · rw [tb_f hp, tb_f (fun hq => hp (h.2 hq))]
theorem tb_eq {p : Prop} {b : Bool} (h : b = true ↔ p) : tb p = b := by
  cases b with
  | true => exact tb_t (h.1 rfl)
  | false => exact tb_f (fun hp => by have := h.2 hp; cases this)
noncomputable def ti (p : Prop) (a b : Int) : Int := if tb p then a else b
theorem ti_t {p : Prop} {a b : Int} (h : p) : ti p a b = a := by unfold ti; rw [tb_t h]; rfl
theorem ti_f {p : Prop} {a b : Int} (h : ¬ p) : ti p a b = b := by unfold ti; rw [tb_f h]; rfl

/-- a change in a history -/
structure Nd where
  par : Int
  nxt : Int
  ed : List Ed
  cur : Int
  was : List Int
  made : List Int
def zn : Nd := ⟨0, 0, [], 0, zm, zm⟩
def Ed.t (d : Ed) : Int × Nat × Nat := (d.a, d.O.length, d.N.length)
/-- the marks behind a crossing -/
def crs (m was made : List Int) (D : List Ed) : List Int := crL m was made (mvL m (D.map Ed.t)) 27
theorem crs_len (m was made : List Int) (D : List Ed) : (crs m was made D).length = 27 := crL_len _ _ _ _ _
/-- marks that a right history may hold -/
def MOk (L : List Int) : Prop := ∀ x ∈ L, -1 ≤ x
def EdOk (d : Ed) : Prop := (0 ≤ d.a ∧ d.a ≤ 2147483647) ∧ d.O ≠ d.N
def Sound (n : Nd) : Prop := (0 ≤ n.cur ∧ n.cur ≤ 2147483647) ∧ n.ed ≠ [] ∧ (∀ d ∈ n.ed, EdOk d) ∧ MOk n.was ∧ MOk n.made
def Zero (n : Nd) : Prop := n.par = 0 ∧ n.ed = [] ∧ n.cur = 0 ∧ n.was = zm ∧ n.made = zm
/-- number i -/
def at' (G : List Nd) (i : Nat) : Nd := G.getD i zn
theorem at'_eq {G : List Nd} {i : Nat} {n : Nd} (h : G[i]? = some n) : at' G i = n := by simp [at', List.getD, h]
theorem at'_some {G : List Nd} {i : Nat} (h : i < G.length) : G[i]? = some (at' G i) := by simp [at', List.getD, h]
def pr (G : List Nd) (i : Nat) : Nat := (at' G i).par.toNat
/-- each one's parent leads to it -/
def Rch (G : List Nd) (i : Nat) : Prop := ∀ j ∈ way (pr G) i, (at' G (pr G j)).nxt = (j : Int)
def Sized (G : List Nd) (now : Int) : Prop := G.length ≤ 4097 ∧ 0 ≤ now ∧ now < (G.length : Int)
def Hangs (G : List Nd) : Prop := ∀ (i : Nat) (n : Nd), 0 < i → G[i]? = some n → (0 ≤ n.par ∧ n.par < (i : Int)) ∧ Sound n
def Lead (G : List Nd) (i : Nat) (n : Nd) : Prop := n.nxt = 0 ∨ ∃ k : Nat, n.nxt = (k : Int) ∧ ∃ m, G[k]? = some m ∧ m.par = (i : Int)
def Leads (G : List Nd) : Prop := ∀ (i : Nat) (n : Nd), G[i]? = some n → Lead G i n
/-- a history is right -/
structure Right (G : List Nd) (now : Int) : Prop where
  sz : Sized G now
  beg : Zero (at' G 0)
  hng : Hangs G
  lds : Leads G
  rch : Rch G now.toNat
theorem Hangs.low {G : List Nd} (h : Hangs G) : Low (pr G) G.length := fun i h0 hi => by
  have := (h i _ h0 (at'_some hi)).1
  unfold pr
  omega
theorem Right.low {G : List Nd} {now : Int} (h : Right G now) : Low (pr G) G.length := h.hng.low
theorem Right.pos {G : List Nd} {now : Int} (h : Right G now) : 0 < G.length := by have := h.sz.2; omega
/-- a change more -/
def addG (G : List Nd) (now : Int) (x : Nd) : List Nd := (G.set now.toNat { at' G now.toNat with nxt := (G.length : Int) }) ++ [x]
/-- how far a walk has come -/
structure Wk where
  G : List Nd
  now : Int
  E : List Ed
  cur : Int
  m : List Int
def Wk.up (s : Wk) (i : Nat) : Wk :=
  { G := s.G.set i { at' s.G i with was := s.m, made := crs s.m (at' s.G i).was (at' s.G i).made (inv (at' s.G i).ed) }, now := (at' s.G i).par, E := s.E ++ inv (at' s.G i).ed, cur := (at' s.G i).cur, m := crs s.m (at' s.G i).was (at' s.G i).made (inv (at' s.G i).ed) }
/-- a change with new marks -/
def Wk.dn1 (s : Wk) (i : Nat) : List Nd := s.G.set i { at' s.G i with was := s.m, made := crs s.m (at' s.G i).was (at' s.G i).made (at' s.G i).ed }
def Wk.down (s : Wk) (i : Nat) : Wk :=
  { G := (s.dn1 i).set (pr s.G i) { at' (s.dn1 i) (pr s.G i) with nxt := (i : Int) }, now := (i : Int), E := s.E ++ (at' s.G i).ed, cur := fst (at' s.G i).ed, m := crs s.m (at' s.G i).was (at' s.G i).made (at' s.G i).ed }
def Wk.new (G : List Nd) (now : Int) (m : List Int) : Wk := ⟨G, now, [], 0, m⟩
def pathU (G : List Nd) (i j : Nat) : List Nat := (strip (way (pr G) i) (way (pr G) j)).1
def pathD (G : List Nd) (i j : Nat) : List Nat := (strip (way (pr G) i) (way (pr G) j)).2.reverse
def Wk.go (s : Wk) (U D : List Nat) : Wk := D.foldl Wk.down (U.foldl Wk.up s)
/-- what a crossing leaves of a node -/
def sk (n : Nd) : Int × List Ed × Int := (n.par, n.ed, n.cur)
theorem getD_set {G : List Nd} {i j : Nat} {x : Nd} : at' (G.set i x) j = if i = j ∧ j < G.length then x else at' G j := by
  unfold at'
  rw [List.getD_eq_getElem?_getD, List.getD_eq_getElem?_getD, List.getElem?_set]
  by_cases e : i = j
  · subst e
    rw [if_pos rfl]
    by_cases h : i < G.length
    · rw [if_pos h, if_pos ⟨rfl, h⟩]; rfl
    · rw [if_neg h, if_neg (fun h' => h h'.2), List.getElem?_eq_none (by omega)]
  · rw [if_neg e, if_neg (fun h' => e h'.1)]
theorem sk_set {G : List Nd} {i : Nat} {x : Nd} (h : sk x = sk (at' G i)) (j : Nat) : sk (at' (G.set i x) j) = sk (at' G j) := by
  rw [getD_set]
  split
  · rename_i h'; rw [h, h'.1]
  · rfl
theorem Wk.up_sk (s : Wk) (i j : Nat) : sk (at' (s.up i).G j) = sk (at' s.G j) := by
  unfold Wk.up
  exact sk_set (by rfl) j
theorem Wk.dn1_sk (s : Wk) (i j : Nat) : sk (at' (s.dn1 i) j) = sk (at' s.G j) := by
  unfold Wk.dn1
  exact sk_set (by rfl) j
theorem Wk.down_sk (s : Wk) (i j : Nat) : sk (at' (s.down i).G j) = sk (at' s.G j) := by
  unfold Wk.down
  exact (sk_set (by rfl) j).trans (s.dn1_sk i j)
theorem Wk.up_len (s : Wk) (i : Nat) : (s.up i).G.length = s.G.length := by simp [Wk.up]
theorem Wk.dn1_len (s : Wk) (i : Nat) : (s.dn1 i).length = s.G.length := by simp [Wk.dn1]
theorem Wk.down_len (s : Wk) (i : Nat) : (s.down i).G.length = s.G.length := by simp [Wk.down, Wk.dn1]
theorem Wk.up_mlen (s : Wk) (i : Nat) : (s.up i).m.length = 27 := crs_len _ _ _ _
theorem Wk.down_mlen (s : Wk) (i : Nat) : (s.down i).m.length = 27 := crs_len _ _ _ _
theorem pr_sk {G H : List Nd} {i : Nat} (h : sk (at' G i) = sk (at' H i)) : pr G i = pr H i := by
  unfold pr; rw [show (at' G i).par = (at' H i).par from congrArg Prod.fst h]
theorem ed_sk {G H : List Nd} {i : Nat} (h : sk (at' G i) = sk (at' H i)) : (at' G i).ed = (at' H i).ed := congrArg (fun x => x.2.1) h
theorem cur_sk {G H : List Nd} {i : Nat} (h : sk (at' G i) = sk (at' H i)) : (at' G i).cur = (at' H i).cur := congrArg (fun x => x.2.2) h
theorem par_sk {G H : List Nd} {i : Nat} (h : sk (at' G i) = sk (at' H i)) : (at' G i).par = (at' H i).par := congrArg (fun x => x.1) h
/-- a way up is told by its beginning alone -/
theorem Up.pre {par : Nat → Nat} : ∀ {a b : List Nat} {i c d : Nat}, Up par i a c → Up par i b d → a.length ≤ b.length → a <+: b
  | [], b, _, _, _, _, _, _ => List.nil_prefix
  | x :: a, [], _, _, _, _, _, h => by simp at h
  | x :: a, y :: b, i, c, d, h1, h2, hl => by
    have e1 := h1.1
    have e2 := h2.1
    subst e1 e2
    exact List.prefix_cons_inj _ |>.2 (Up.pre h1.2.2 h2.2.2 (by simpa using hl))
theorem Up.take {par : Nat → Nat} {a : List Nat} {i c : Nat} (h : Up par i a c) (k : Nat) : ∃ d, Up par i (a.take k) d := by
  have e := List.take_append_drop k a
  rw [← e] at h
  obtain ⟨d, h1, _⟩ := Up.append.1 h
  exact ⟨d, h1⟩
/-- of a way up: where the k-th crossing begins -/
theorem Up.nth {par : Nat → Nat} : ∀ {a : List Nat} {i c k x : Nat}, Up par i a c → a[k]? = some x → Up par i (a.take k) x ∧ 0 < x ∧ Up par i (a.take (k + 1)) (par x)
  | [], _, _, k, _, _, h => by simp at h
  | y :: a, i, c, 0, x, h, hx => by
    simp at hx
    subst hx
    have e := h.1
    subst e
    exact ⟨rfl, h.2.1, ⟨rfl, h.2.1, rfl⟩⟩
  | y :: a, i, c, k + 1, x, h, hx => by
    rw [List.getElem?_cons_succ] at hx
    obtain ⟨h1, h2, h3⟩ := Up.nth h.2.2 hx
    exact ⟨⟨h.1, h.2.1, h1⟩, h2, ⟨h.1, h.2.1, h3⟩⟩
theorem Up.lt {par : Nat → Nat} {k : Nat} (hp : Low par k) : ∀ {a : List Nat} {i c : Nat}, i < k → Up par i a c → (∀ x ∈ a, x ≤ i) ∧ c ≤ i
  | [], i, c, _, h => by
    have e : i = c := h
    subst e
    exact ⟨fun x hx => (by cases hx), Nat.le_refl _⟩
  | y :: a, i, c, hi, h => by
    have h1 := hp i h.2.1 hi
    obtain ⟨h2, h3⟩ := Up.lt hp (by omega) h.2.2
    refine ⟨fun x hx => ?_, by omega⟩
    rcases List.mem_cons.1 hx with rfl | hx
    · rw [h.1]; exact Nat.le_refl _
    · have := h2 x hx; omega
/-- no change stands twice on a way up -/
theorem Up.nodup {par : Nat → Nat} {k : Nat} (hp : Low par k) : ∀ {a : List Nat} {i c : Nat}, i < k → Up par i a c → a.Nodup
  | [], _, _, _, _ => List.nodup_nil
  | y :: a, i, c, hi, h => by
    have h1 := hp i h.2.1 hi
    refine List.nodup_cons.2 ⟨fun hm => ?_, Up.nodup hp (by omega) h.2.2⟩
    have := (Up.lt hp (by omega) h.2.2).1 y hm
    have := h.1
    omega
/-- the way from a change of a way on -/
theorem Up.from {par : Nat → Nat} {a : List Nat} {i x : Nat} (h : Up par i a 0) (hx : x ∈ a) : ∃ p, a = p ++ x :: (a.drop (p.length + 1)) ∧ Up par x (x :: (a.drop (p.length + 1))) 0 := by
  obtain ⟨p, q, rfl⟩ := List.append_of_mem hx
  obtain ⟨d, h1, h2⟩ := Up.append.1 h
  have e : d = x := h2.1.symm
  subst e
  have e2 : (p ++ d :: q).drop (p.length + 1) = q := by rw [← List.drop_drop, List.drop_left' rfl]; rfl
  exact ⟨p, by rw [e2], by rw [e2]; exact h2⟩
theorem Up.same {par : Nat → Nat} {k : Nat} (hp : Low par k) : ∀ {a b : List Nat} {i : Nat}, i < k → Up par i a 0 → Up par i b 0 → a = b
  | [], [], _, _, _, _ => rfl
  | [], y :: b, i, _, h1, h2 => by have e : i = 0 := h1; have := h2.2.1; omega
  | x :: a, [], i, _, h1, h2 => by have e : i = 0 := h2; have := h1.2.1; omega
  | x :: a, y :: b, i, hi, h1, h2 => by
    have := hp i h1.2.1 hi
    rw [h1.1, h2.1, Up.same hp (by omega) h1.2.2 h2.2.2]
theorem strip_apart {par : Nat → Nat} {k i j : Nat} (hp : Low par k) (hi : i < k) (hj : j < k) : ∃ s, way par i = (strip (way par i) (way par j)).1 ++ s ∧ way par j = (strip (way par i) (way par j)).2 ++ s ∧ (∀ x ∈ (strip (way par i) (way par j)).1, x ∉ way par j) ∧ (∀ x ∈ (strip (way par i) (way par j)).2, x ∉ way par i) := by
  obtain ⟨s, h1, h2, h3⟩ := strip_go (way par i).reverse (way par j).reverse
  have u1 := way_up hp hi
  have u2 := way_up hp hj
  have e1 : way par i = (strip (way par i) (way par j)).1 ++ s.reverse := by
    have := congrArg List.reverse h1
    rw [List.reverse_reverse, List.reverse_append] at this
    exact this
  have e2 : way par j = (strip (way par i) (way par j)).2 ++ s.reverse := by
    have := congrArg List.reverse h2
    rw [List.reverse_reverse, List.reverse_append] at this
    exact this
  have hd1 : (strip.go (way par i).reverse (way par j).reverse).1 = (strip (way par i) (way par j)).1.reverse := by
    show _ = (strip.go (way par i).reverse (way par j).reverse).1.reverse.reverse
    rw [List.reverse_reverse]
  have hd2 : (strip.go (way par i).reverse (way par j).reverse).2 = (strip (way par i) (way par j)).2.reverse := by
    show _ = (strip.go (way par i).reverse (way par j).reverse).2.reverse.reverse
    rw [List.reverse_reverse]
  rw [hd1, hd2] at h3
  generalize (strip (way par i) (way par j)).1 = A at *
  generalize (strip (way par i) (way par j)).2 = B at *
  clear hd1 hd2 h1 h2
  have key : ∀ x, x ∈ A → x ∈ way par j → False := fun x hA hB => by
    have hA' : x ∈ way par i := by rw [e1]; exact List.mem_append_left _ hA
    obtain ⟨p, ep, up⟩ := Up.from u1 hA'
    obtain ⟨q, eq, uq⟩ := Up.from u2 hB
    have hx : x < k := by have := (Up.lt hp hi u1).1 x hA'; omega
    have es := Up.same hp hx up uq
    generalize x :: (way par i).drop (p.length + 1) = X at *
    generalize x :: (way par j).drop (q.length + 1) = Y at *
    subst es
    -- X is an end of both ways, longer than s
    have hlen : s.reverse.length < X.length := by
      rcases Nat.lt_or_ge s.reverse.length X.length with h | h
      · exact h
      · exfalso
        have hsx : X <:+ s.reverse := by
          have a1 : X <:+ way par i := ⟨p, ep.symm⟩
          have a2 : s.reverse <:+ way par i := ⟨A, e1.symm⟩
          exact List.suffix_of_suffix_length_le a1 a2 h
        have hxs : x ∈ s.reverse := hsx.subset (by have := up.head; cases X with
          | nil => exact absurd up.head (by intro e; have := (Up.mem u1 x hA'); simp at e; omega)
          | cons y X => have e := up.1; subst e; simp)
        have hn := Up.nodup hp hi u1
        rw [e1, List.nodup_append] at hn
        exact hn.2.2 x hA x hxs rfl
    have hA1 : A ≠ [] := fun e => by rw [e] at hA; cases hA
    obtain ⟨A0, a, rfl⟩ := List.eq_nil_or_concat A |>.resolve_left hA1
    have sX : s.reverse <:+ X := List.suffix_of_suffix_length_le ⟨_, e1.symm⟩ ⟨_, ep.symm⟩ (by omega)
    obtain ⟨X0, rfl⟩ := sX
    have hX0 : X0 ≠ [] := fun e => by rw [e] at hlen; simp at hlen
    obtain ⟨X1, z, rfl⟩ := List.eq_nil_or_concat X0 |>.resolve_left hX0
    have i1 : A0 ++ [a] = p ++ (X1 ++ [z]) := by
      have := e1.symm.trans ep
      rw [← List.append_assoc] at this
      simpa using List.append_cancel_right this
    have i2 : B = q ++ (X1 ++ [z]) := by
      have := e2.symm.trans eq
      rw [← List.append_assoc] at this
      simpa using List.append_cancel_right this
    have ea : a = z := by
      have := congrArg List.getLast? i1
      simpa [List.getLast?_append] using this
    subst ea
    rw [i2] at h3
    simp at h3
  refine ⟨s.reverse, e1, e2, fun x hx hx2 => key x hx hx2, fun x hx hx2 => ?_⟩
  rw [e1] at hx2
  rcases List.mem_append.1 hx2 with h | h
  · exact key x h (by rw [e2]; exact List.mem_append_left _ hx)
  · have hn := Up.nodup hp hj u2
    rw [e2, List.nodup_append] at hn
    exact hn.2.2 x hx x h rfl
end Go.Proofs.Ytaahklapoppgaaa

/- Changes in memory: 58 cells each, one behind the other; histories. -/
namespace Go.Proofs.Ytaahklapoppgaaa
open Go.RowKit

set_option maxRecDepth 8000
theorem info41 : (Try.prog.info? 41).map (·.size) = some 27 := by kernel_rfl
theorem info63 : (Try.prog.info? 63).map (·.size) = some 58 := by kernel_rfl
theorem info50 : (Try.prog.info? 50).map (·.size) = some 29 := by kernel_rfl
theorem info100 : (Try.prog.info? 100).map (·.size) = some 31 := by kernel_rfl
theorem u41 : ∃ d, Try.prog.underlying 41 = some d ∧ d.isRow = true := ⟨_, Try.underlying41, rfl⟩
theorem u63 : ∃ d, Try.prog.underlying 63 = some d ∧ d.isRow = true := ⟨_, Try.underlying63, rfl⟩
theorem u50 : ∃ d, Try.prog.underlying 50 = some d ∧ d.isRow = true := ⟨_, Try.underlying50, rfl⟩
theorem u100 : ∃ d, Try.prog.underlying 100 = some d ∧ d.isRow = true := ⟨_, Try.underlying100, rfl⟩
/-- a type of many cells -/
structure Ty (t n : Nat) : Prop where
  u : ∃ d, Try.prog.underlying t = some d ∧ d.isRow = true
  i : (Try.prog.info? t).map (·.size) = some n
theorem ty41 : Ty 41 27 := ⟨u41, info41⟩
theorem ty63 : Ty 63 58 := ⟨u63, info63⟩
theorem ty50 : Ty 50 29 := ⟨u50, info50⟩
theorem ty100 : Ty 100 31 := ⟨u100, info100⟩
section
variable {ops : Array Oper} {rest : List Oper} {op : Oper} {a : Act} {w : World} {Q : Exit → Act → World → Prop} {K : Act → World → Prop} {S : World → Prop} {t n B o : Nat}
theorem wl_ld (T : Ty t n) (x : Operand) (hgd : op.guard = none) (ho : op.op = .load t x) (hx : a.eval x = .pointer (some ⟨B, o, none⟩)) (cs : List Value) (hl : cs.length = n) (hc : w.rangeAt B o cs) (hr : wpList Try.prog ops Q rest (a.put op.dst (.agg cs.toArray)) w) : wpList Try.prog ops Q (op :: rest) a w := by
  obtain ⟨d, h1, h2⟩ := T.u
  exact wpList_load_mid hgd t x ho B o hx cs d hc h1 h2 (by rw [T.i, hl]) hr
theorem wl_ldg (T : Ty t n) (x : Operand) (hw : Region.wanted op (yielded ops a.tmps) = true) (ho : op.op = .load t x) (hx : a.eval x = .pointer (some ⟨B, o, none⟩)) (cs : List Value) (hl : cs.length = n) (hc : w.rangeAt B o cs) (hr : wpList Try.prog ops Q rest (a.put op.dst (.agg cs.toArray)) w) : wpList Try.prog ops Q (op :: rest) a w := by
  obtain ⟨d, h1, h2⟩ := T.u
  simp only [wpList, hw, if_true]
  exact .inl (wp_load_mid t x ho B o hx cs d hc h1 h2 (by rw [T.i, hl]) hr)
theorem wl_st (T : Ty t n) (x y : Operand) (hgd : op.guard = none) (ho : op.op = .store t x y) (hx : a.eval x = .pointer (some ⟨B, o, none⟩)) (cs : List Value) (hy : a.eval y = .agg cs.toArray) (hl : cs.length = n) (ht : w.there B o n) (h1 : ∀ v ∈ cs, v.oneCell' = true) (hr : wpList Try.prog ops Q rest (a.put op.dst undef) (w.setCells B o cs)) : wpList Try.prog ops Q (op :: rest) a w :=
  wpList_store_mid hgd t x y ho B o cs.toArray hx hy (by simpa [hl] using ht) (by rw [T.i]; simp [hl]) (all_oneCell_toArray h1) (by simpa using hr)
theorem yi_ld (T : Ty t n) (hw : Region.wanted op (yielded ops a.tmps) = true) (x : Operand) (ho : op.op = .load t x) (hx : a.eval x = .pointer (some ⟨B, o, none⟩)) (cs : List Value) (hl : cs.length = n) (hS : ∀ w, S w → w.rangeAt B o cs) : YieldsIf Try.prog ops S op (.agg cs.toArray) a := by
  obtain ⟨d, h1, h2⟩ := T.u
  exact yieldsIf_load_mid hw t x ho B o hx cs d hS h1 h2 (by rw [T.i, hl])
theorem do_ld {c : Bool} {E : Prop} (T : Ty t n) (hc : c = true) (x : Operand) (ho : op.op = .load t x) (hx : a.eval x = .pointer (some ⟨B, o, none⟩)) (cs : List Value) (hl : cs.length = n) (h : w.rangeAt B o cs) (hr : K (a.put op.dst (.agg cs.toArray)) w) : if c = true then Oper.wp Try.prog op a w K Q else E := by
  obtain ⟨d, h1, h2⟩ := T.u
  rw [if_pos hc]
  exact wp_load_mid t x ho B o hx cs d h h1 h2 (by rw [T.i, hl]) hr
theorem do_st {c : Bool} {E : Prop} (T : Ty t n) (hc : c = true) (x y : Operand) (ho : op.op = .store t x y) (hx : a.eval x = .pointer (some ⟨B, o, none⟩)) (cs : List Value) (hy : a.eval y = .agg cs.toArray) (hl : cs.length = n) (ht : w.there B o n) (h1 : ∀ v ∈ cs, v.oneCell' = true) (hr : K (a.put op.dst undef) (w.setCells B o cs)) : if c = true then Oper.wp Try.prog op a w K Q else E := by
  rw [if_pos hc]
  exact wp_store_mid t x y ho B o cs.toArray hx hy (by simpa [hl] using ht) (by rw [T.i]; simp [hl]) (all_oneCell_toArray h1) (by simpa using hr)
end
theorem ld_var {W : World} {t n B o : Nat} (T : Ty t n) (cs : List Value) (hl : cs.length = n) (h : W.rangeAt B o cs) : (loadVar t ⟨B, o, none⟩).run Try.prog W = .ok (.agg cs.toArray) W := by
  obtain ⟨d, h1, h2⟩ := T.u
  exact run_loadVar_mid W B o t cs d h h1 h2 (by rw [T.i, hl])
/-- a range of cells is kept -/
theorem range_keep {W W' : World} {B o : Nat} {cs : List Value} (h : W.rangeAt B o cs) (hb : Below W.heap.size W W') : W'.rangeAt B o cs := fun j v hv => cell_keep (h j v hv) hb
theorem range_blk {W : World} {B e : Nat} {cs : List Value} (h : Blk W B e cs.toArray) : W.rangeAt B 0 cs := by
  have := blk_range (pre := []) (mid := cs) (post := []) (by simpa using h)
  simpa using this
theorem there_blk {W : World} {B e : Nat} {cs : List Value} (h : Blk W B e cs.toArray) : W.there B 0 cs.length := by
  have := blk_there (pre := []) (mid := cs) (post := []) (by simpa using h)
  simpa using this
theorem range_part {W : World} {B o : Nat} {pre mid post : List Value} (h : W.rangeAt B o (pre ++ mid ++ post)) : W.rangeAt B (o + pre.length) mid := fun j v hv => by
  have := h (pre.length + j) v (by rw [List.append_assoc, List.getElem?_append_right (by omega), show pre.length + j - pre.length = j by omega, List.getElem?_append_left (List.getElem?_eq_some_iff.1 hv).1]; exact hv)
  rwa [← Nat.add_assoc] at this
theorem range_off {W W' : World} {B o : Nat} {cs : List Value} {r : Option Nat} (h : W.rangeAt B o cs) (hlt : B < W.heap.size) (hg : W.grownBy W' r) (hne : some B ≠ r) : W'.rangeAt B o cs := fun j v hv => by
  rw [World.cell?_of_block (hg.block B hlt hne)]; exact h j v hv

/-- a change as a value, with its edits -/
structure Nr where
  par : Int
  nxt : Int
  ea : Option Addr
  en : Nat
  ec : Nat
  E : List Er
  cur : Int
  was : List Int
  made : List Int
def Nr.hd (r : Nr) : List Value := [.int .i64 r.par, .int .i64 r.nxt, .slice r.ea r.en r.ec, .int .i64 r.cur]
def Nr.cs (r : Nr) : List Value := r.hd ++ ml r.was ++ ml r.made
def nd (r : Nr) : Array Value := r.cs.toArray
def Nr.d (r : Nr) : Nd := ⟨r.par, r.nxt, r.E.map Er.d, r.cur, r.was, r.made⟩
/-- 27 marks, each an int -/
structure Mw (L : List Int) : Prop where
  len : L.length = 27
  big : ∀ x ∈ L, x ≤ 9223372036854775807
theorem mw_zm : Mw zm := ⟨rfl, fun x hx => by simp [zm] at hx; omega⟩
/-- a change whose edits lie in memory -/
structure Nz (W : World) (r : Nr) : Prop where
  ez : Edz W r.ea r.E
  len : r.E.length = r.en
  cap : r.en ≤ r.ec
  nil : r.ea = none → r.ec = 0
  big : r.en * 56 ≤ 140737488355328
  ww : Mw r.was
  wm : Mw r.made
theorem Nz.keep {W W' : World} {r : Nr} (h : Nz W r) (hb : Below W.heap.size W W') : Nz W' r := ⟨h.ez.keep hb, h.len, h.cap, h.nil, h.big, h.ww, h.wm⟩
theorem Nr.cs_len {r : Nr} (h1 : r.was.length = 27) (h2 : r.made.length = 27) : r.cs.length = 58 := by simp [Nr.cs, Nr.hd, ml_len, h1, h2]
theorem Nz.cl {W : World} {r : Nr} (h : Nz W r) : r.cs.length = 58 := Nr.cs_len h.ww.len h.wm.len
theorem Nr.one (r : Nr) : ∀ v ∈ r.cs, v.oneCell' = true := by
  intro v hv
  simp only [Nr.cs, List.mem_append] at hv
  rcases hv with (hv | hv) | hv
  · simp [Nr.hd] at hv
    rcases hv with rfl | rfl | rfl | rfl <;> rfl
  · exact ml_one _ v hv
  · exact ml_one _ v hv
/-- the cells of a change -/
structure Nc (W : World) (g o : Nat) (r : Nr) : Prop where
  c0 : W.cell? ⟨g, o, none⟩ = some (.int .i64 r.par)
  c1 : W.cell? ⟨g, o + 1, none⟩ = some (.int .i64 r.nxt)
  c2 : W.cell? ⟨g, o + 2, none⟩ = some (.slice r.ea r.en r.ec)
  c3 : W.cell? ⟨g, o + 3, none⟩ = some (.int .i64 r.cur)
  m1 : W.rangeAt g (o + 4) (ml r.was)
  m2 : W.rangeAt g (o + 31) (ml r.made)
  all : W.rangeAt g o r.cs
theorem Nc.of {W : World} {g o : Nat} {r : Nr} (h : W.rangeAt g o r.cs) (hw : r.was.length = 27) : Nc W g o r := by
  refine ⟨?_, ?_, ?_, ?_, ?_, ?_, h⟩
  · exact h 0 _ rfl
  · exact h 1 _ rfl
  · exact h 2 _ rfl
  · exact h 3 _ rfl
  · have := range_part (pre := r.hd) (mid := ml r.was) (post := ml r.made) h
    simpa [Nr.hd] using this
  · have := range_part (pre := r.hd ++ ml r.was) (mid := ml r.made) (post := []) (by rw [List.append_nil]; exact h)
    simpa [Nr.hd, ml_len, hw] using this
theorem Nc.keep {W W' : World} {g o : Nat} {r : Nr} (h : Nc W g o r) (hb : Below W.heap.size W W') : Nc W' g o r := ⟨cell_keep h.c0 hb, cell_keep h.c1 hb, cell_keep h.c2 hb, cell_keep h.c3 hb, range_keep h.m1 hb, range_keep h.m2 hb, range_keep h.all hb⟩
theorem Nc.lt {W : World} {g o : Nat} {r : Nr} (h : Nc W g o r) : g < W.heap.size := lt_of_cell h.c0
/-- changes in memory -/
def Grr (W : World) (ao : Option Addr) (G : List Nr) : Prop := ∀ (k : Nat) (r : Nr), G[k]? = some r → ∃ g o, ao = some ⟨g, o, none⟩ ∧ W.rangeAt g (o + k * 58) r.cs
/-- changes in memory, with their edits -/
structure Grz (W : World) (ao : Option Addr) (G : List Nr) : Prop where
  row : Grr W ao G
  nds : ∀ (k : Nat) (r : Nr), G[k]? = some r → Nz W r
theorem Grz.keep {W W' : World} {ao : Option Addr} {G : List Nr} (h : Grz W ao G) (hb : Below W.heap.size W W') : Grz W' ao G :=
  ⟨fun k r hk => by obtain ⟨g, o, h1, h2⟩ := h.row k r hk; exact ⟨g, o, h1, range_keep h2 hb⟩, fun k r hk => (h.nds k r hk).keep hb⟩
theorem Grz.at {W : World} {ao : Option Addr} {G : List Nr} {k : Nat} {r : Nr} (h : Grz W ao G) (hk : G[k]? = some r) : ∃ g o, ao = some ⟨g, o, none⟩ ∧ Nc W g (o + k * 58) r := by
  obtain ⟨g, o, h1, h2⟩ := h.row k r hk
  exact ⟨g, o, h1, Nc.of h2 (h.nds k r hk).ww.len⟩
/-- all of one place -/
theorem Grz.base {W : World} {ao : Option Addr} {G : List Nr} (h : Grz W ao G) (hp : 0 < G.length) : ∃ g o, ao = some ⟨g, o, none⟩ ∧ ∀ (k : Nat) (r : Nr), G[k]? = some r → Nc W g (o + k * 58) r := by
  obtain ⟨g, o, h1, -⟩ := h.at (List.getElem?_eq_getElem hp)
  refine ⟨g, o, h1, fun k r hk => ?_⟩
  obtain ⟨g', o', h2, h3⟩ := h.at hk
  rw [h1] at h2
  simp at h2
  obtain ⟨rfl, rfl⟩ := h2
  exact h3
/-- a change in a block of its own -/
structure Nb (W : World) (B : Nat) (r : Nr) : Prop where
  blk : Blk W B 63 (nd r)
  c0 : W.cell? ⟨B, 0, none⟩ = some (.int .i64 r.par)
  c1 : W.cell? ⟨B, 1, none⟩ = some (.int .i64 r.nxt)
  c2 : W.cell? ⟨B, 2, none⟩ = some (.slice r.ea r.en r.ec)
  c3 : W.cell? ⟨B, 3, none⟩ = some (.int .i64 r.cur)
  m1 : W.rangeAt B 4 (ml r.was)
  m2 : W.rangeAt B 31 (ml r.made)
  all : W.rangeAt B 0 r.cs
theorem Nb.of {W : World} {B : Nat} {r : Nr} (h : Blk W B 63 (nd r)) (hw : r.was.length = 27) : Nb W B r := by
  have h0 := range_blk h
  obtain ⟨h1, h2, h3, h4, h5, h6, h7⟩ := Nc.of h0 hw
  simp only [Nat.zero_add] at h1 h2 h3 h4 h5 h6
  exact ⟨h, h1, h2, h3, h4, h5, h6, h7⟩
theorem Nb.keep {W W' : World} {B : Nat} {r : Nr} (h : Nb W B r) (hb : Below W.heap.size W W') : Nb W' B r := ⟨h.blk.keep hb, cell_keep h.c0 hb, cell_keep h.c1 hb, cell_keep h.c2 hb, cell_keep h.c3 hb, range_keep h.m1 hb, range_keep h.m2 hb, range_keep h.all hb⟩
/-- nothing in it -/
def zr : Nr := ⟨0, 0, none, 0, 0, [], 0, zm, zm⟩
theorem zv63 : (Try.prog.info? 63).map (·.zero) = some (some (.agg zr.cs.toArray)) := by kernel_rfl
theorem zv_run {t : Nat} {v : Value} (h : (Try.prog.info? t).map (·.zero) = some (some v)) (w : World) : (zeroValue t).run Try.prog w = .ok v w := by
  cases hq : Try.prog.info? t with
  | none => rw [hq] at h; cases h
  | some i =>
    rw [hq] at h
    simp at h
    simp [zeroValue, typeInfo, hq, h]
theorem z63 (w : World) : (zeroValue 63).run Try.prog w = .ok (.agg (nd zr)) w := zv_run zv63 w
/-- a crossing as cells -/
def cx (v : Value) (c : Int) (L : List Int) : List Value := v :: .int .i64 c :: ml L
def cxa (v : Value) (c : Int) (L : List Int) : Array Value := (cx v c L).toArray
theorem cx_len {v : Value} {c : Int} {L : List Int} (h : L.length = 27) : (cx v c L).length = 29 := by simp [cx, ml_len, h]
theorem cx_one {a : Option Addr} {n k : Nat} {c : Int} {L : List Int} : ∀ v ∈ cx (.slice a n k) c L, v.oneCell' = true := by
  intro v hv
  simp only [cx, List.mem_cons] at hv
  rcases hv with rfl | rfl | hv
  · rfl
  · rfl
  · exact ml_one _ v hv
theorem zv50 : (Try.prog.info? 50).map (·.zero) = some (some (.agg (cx (.slice none 0 0) 0 zm).toArray)) := by kernel_rfl
theorem z50 (w : World) : (zeroValue 50).run Try.prog w = .ok (.agg (cxa (.slice none 0 0) 0 zm)) w := zv_run zv50 w
theorem b50 (w : World) : (Instr.build 50 #[]).run Try.prog w = .ok (.agg (cxa (.slice none 0 0) 0 zm)) w := by kernel_rfl

/-- a walk as cells -/
def wc (a : Option Addr) (n k : Nat) (now : Int) (v : Value) (c : Int) (L : List Int) : List Value := .slice a n k :: .int .i64 now :: cx v c L
def wca (a : Option Addr) (n k : Nat) (now : Int) (v : Value) (c : Int) (L : List Int) : Array Value := (wc a n k now v c L).toArray
theorem wc_len {a : Option Addr} {n k : Nat} {now : Int} {v : Value} {c : Int} {L : List Int} (h : L.length = 27) : (wc a n k now v c L).length = 31 := by simp [wc, cx_len h]
section
variable {ops : Array Oper} {rest : List Oper} {op : Oper} {a : Act} {w : World} {Q : Exit → Act → World → Prop} {K : Act → World → Prop} {S : World → Prop} {B o : Nat} {L M : List Int} {r : Nr} {v : Value} {c : Int}
theorem wl_ld41 (x : Operand) (hgd : op.guard = none) (ho : op.op = .load 41 x) (hx : a.eval x = .pointer (some ⟨B, o, none⟩)) (hl : L.length = 27) (hc : w.rangeAt B o (ml L)) (hr : wpList Try.prog ops Q rest (a.put op.dst (.agg (mk L))) w) : wpList Try.prog ops Q (op :: rest) a w := wl_ld ty41 x hgd ho hx (ml L) (by rw [ml_len, hl]) hc hr
theorem wl_ld41g (x : Operand) (hw : Region.wanted op (yielded ops a.tmps) = true) (ho : op.op = .load 41 x) (hx : a.eval x = .pointer (some ⟨B, o, none⟩)) (hl : L.length = 27) (hc : w.rangeAt B o (ml L)) (hr : wpList Try.prog ops Q rest (a.put op.dst (.agg (mk L))) w) : wpList Try.prog ops Q (op :: rest) a w := wl_ldg ty41 x hw ho hx (ml L) (by rw [ml_len, hl]) hc hr
theorem wl_st41 (x y : Operand) (hgd : op.guard = none) (ho : op.op = .store 41 x y) (hx : a.eval x = .pointer (some ⟨B, o, none⟩)) (hy : a.eval y = .agg (mk L)) (hl : L.length = 27) (ht : w.there B o 27) (hr : wpList Try.prog ops Q rest (a.put op.dst undef) (w.setCells B o (ml L))) : wpList Try.prog ops Q (op :: rest) a w := wl_st ty41 x y hgd ho hx (ml L) hy (by rw [ml_len, hl]) ht (ml_one L) hr
theorem wl_ld63 (x : Operand) (hgd : op.guard = none) (ho : op.op = .load 63 x) (hx : a.eval x = .pointer (some ⟨B, o, none⟩)) (hl : r.cs.length = 58) (hc : w.rangeAt B o r.cs) (hr : wpList Try.prog ops Q rest (a.put op.dst (.agg (nd r))) w) : wpList Try.prog ops Q (op :: rest) a w := wl_ld ty63 x hgd ho hx r.cs hl hc hr
theorem wl_ld63g (x : Operand) (hw : Region.wanted op (yielded ops a.tmps) = true) (ho : op.op = .load 63 x) (hx : a.eval x = .pointer (some ⟨B, o, none⟩)) (hl : r.cs.length = 58) (hc : w.rangeAt B o r.cs) (hr : wpList Try.prog ops Q rest (a.put op.dst (.agg (nd r))) w) : wpList Try.prog ops Q (op :: rest) a w := wl_ldg ty63 x hw ho hx r.cs hl hc hr
theorem wl_st63 (x y : Operand) (hgd : op.guard = none) (ho : op.op = .store 63 x y) (hx : a.eval x = .pointer (some ⟨B, o, none⟩)) (hy : a.eval y = .agg (nd r)) (hl : r.cs.length = 58) (ht : w.there B o 58) (hr : wpList Try.prog ops Q rest (a.put op.dst undef) (w.setCells B o r.cs)) : wpList Try.prog ops Q (op :: rest) a w := wl_st ty63 x y hgd ho hx r.cs hy hl ht r.one hr
theorem wl_ld50 (x : Operand) (hgd : op.guard = none) (ho : op.op = .load 50 x) (hx : a.eval x = .pointer (some ⟨B, o, none⟩)) (hl : L.length = 27) (hc : w.rangeAt B o (cx v c L)) (hr : wpList Try.prog ops Q rest (a.put op.dst (.agg (cxa v c L))) w) : wpList Try.prog ops Q (op :: rest) a w := wl_ld ty50 x hgd ho hx (cx v c L) (cx_len hl) hc hr
theorem wl_st50 {p : Option Addr} {n k : Nat} (x y : Operand) (hgd : op.guard = none) (ho : op.op = .store 50 x y) (hx : a.eval x = .pointer (some ⟨B, o, none⟩)) (hy : a.eval y = .agg (cxa (.slice p n k) c L)) (hl : L.length = 27) (ht : w.there B o 29) (hr : wpList Try.prog ops Q rest (a.put op.dst undef) (w.setCells B o (cx (.slice p n k) c L))) : wpList Try.prog ops Q (op :: rest) a w := wl_st ty50 x y hgd ho hx (cx (.slice p n k) c L) hy (cx_len hl) ht cx_one hr
end
/-- marks stored over a block of marks -/
theorem put41 {W : World} {B : Nat} {L M : List Int} (hL : L.length = 27) (hM : M.length = 27) (h : Blk W B 41 (mk M)) : Blk (W.setCells B 0 (ml L)) B 41 (mk L) := Blk.put24 hL hM h
theorem there41 {W : World} {B : Nat} {M : List Int} (hM : M.length = 27) (h : Blk W B 41 (mk M)) : W.there B 0 27 := by
  have := there_blk (cs := ml M) h
  rwa [ml_len, hM] at this
theorem put_blk {W : World} {B e : Nat} {cs old : List Value} (hl : old.length = cs.length) (h : Blk W B e old.toArray) : Blk (W.setCells B 0 cs) B e cs.toArray := by
  have := blk_setCells cs [] old [] hl (by simpa using h)
  simpa using this
end Go.Proofs.Ytaahklapoppgaaa

/- Rows in stretches of blocks; histories of one's own. -/
namespace Go.Proofs.Ytaahklapoppgaaa
open Go.RowKit

set_option maxRecDepth 8000
theorem Kept.grown {lo hi : Nat} {A B C : World} {r : Option Nat} (h : Kept lo hi A B) (hg : B.grownBy C r) (hr : ∀ g, r = some g → lo ≤ g ∧ (g < hi ∨ A.heap.size ≤ g)) : Kept lo hi A C :=
  ⟨hg.os.trans h.os, hg.tape.trans h.tape, hg.output.trans h.output, Nat.le_trans h.size hg.size, fun k hk ho => by
    rw [hg.block k (by have := h.size; omega) (fun e => by have := hr k e.symm; omega)]
    exact h.block k hk ho⟩
theorem Kept.new {lo hi : Nat} {A B C : World} (h : Kept lo hi A B) (hb : Below B.heap.size B C) : Kept lo hi A C :=
  h.trans ⟨hb.os, hb.tape, hb.output, hb.size, fun k hk _ => hb.block k hk⟩
theorem Kept.one {A C : World} {B : Nat} (hg : A.grownBy C (some B)) : Kept B (B + 1) A C := ⟨hg.os, hg.tape, hg.output, hg.size, fun k hk ho => hg.block k hk (fun e => by injection e with e; omega)⟩
/-- rows that lie apart, in blocks from lo on and below hi -/
structure Rs (lo hi : Nat) (W : World) (R : List Rw) : Prop where
  own : ∀ (i : Nat) (r : Rw), R[i]? = some r → W.ownsRow lo r.t r.s r.v r.n r.xs
  up : ∀ (i : Nat) (r : Rw), R[i]? = some r → ∀ g, r.v.ownBlock = some g → g < hi
  far : ∀ (i j : Nat) (p q : Rw), i ≠ j → R[i]? = some p → R[j]? = some q → Far p.v q.v
theorem Rs.of {w W : World} {R : List Rw} (h : Rws w W R) : Rs w.heap.size W.heap.size W R := ⟨h.own, fun i r hi g hg => ((h.own i r hi).lt g hg).2, h.far⟩
theorem Rs.keep {lo hi : Nat} {W W' : World} {R : List Rw} (h : Rs lo hi W R) (hb : Below W.heap.size W W') : Rs lo hi W' R := ⟨fun i r hi => own_keep (h.own i r hi) hb, h.up, h.far⟩
theorem Rs.kept {lo hi a b : Nat} {W W' : World} {R : List Rw} (h : Rs lo hi W R) (hk : Kept a b W W') (hd : b ≤ lo ∨ hi ≤ a) : Rs lo hi W' R :=
  ⟨fun i r hi => own_same (h.own i r hi) (fun k h1 h2 => hk.block k h2 (by have := ((h.own i r hi).lt k h1).1; have := h.up i r hi k h1; omega)), h.up, h.far⟩
theorem Rs.rws {lo hi : Nat} {w W : World} {R : List Rw} (h : Rs lo hi W R) (hb : Below w.heap.size w W) (hl : w.heap.size ≤ lo) : Rws w W R := ⟨fun i r hi => own_lower (h.own i r hi) hl, h.far, hb⟩
def rowF (v : Value) (F : List Er) : List Rw := ⟨77, 3, v, F.length, ecs F⟩ :: rowsE F
theorem rowF_at {v : Value} {F : List Er} {k : Nat} {r : Er} (h : F[k]? = some r) : (rowF v F)[k * 2 + 1]? = some r.r1 ∧ (rowF v F)[k * 2 + 1 + 1]? = some r.r2 := rowsE_at h
/-- a list of edits in a stretch -/
structure Ls (lo hi : Nat) (W : World) (v : Value) (F : List Er) : Prop where
  rs : Rs lo hi W (rowF v F)
  bnd : ∀ r ∈ F, r.o ≤ 140737488355328 ∧ r.n ≤ 140737488355328
theorem Ls.of {w W : World} {v : Value} {F : List Er} (h : Lst w W v F) : Ls w.heap.size W.heap.size W v F := ⟨Rs.of h.rws, h.bnd⟩
theorem Ls.keep {lo hi : Nat} {W W' : World} {v : Value} {F : List Er} (h : Ls lo hi W v F) (hb : Below W.heap.size W W') : Ls lo hi W' v F := ⟨h.rs.keep hb, h.bnd⟩
theorem Ls.kept {lo hi a b : Nat} {W W' : World} {v : Value} {F : List Er} (h : Ls lo hi W v F) (hk : Kept a b W W') (hd : b ≤ lo ∨ hi ≤ a) : Ls lo hi W' v F := ⟨h.rs.kept hk hd, h.bnd⟩
theorem Ls.ez {lo hi n c : Nat} {W : World} {ao : Option Addr} {F : List Er} (h : Ls lo hi W (.slice ao n c) F) : Edz W ao F := by
  have ho := h.rs.own 0 _ rfl
  obtain ⟨a', c', e, hE, -⟩ := own_edr ho
  have e' : Value.slice ao n c = .slice a' F.length c' := e
  simp only [Value.slice.injEq] at e'
  obtain ⟨rfl, -, -⟩ := e'
  exact ⟨hE, fun k r hk => by
    obtain ⟨h1, h2⟩ := rowF_at (v := .slice ao n c) hk
    have b := h.bnd r (List.mem_of_getElem? hk)
    exact ⟨own_tx' (h.rs.own _ _ h1) b.1, own_tx' (h.rs.own _ _ h2) b.2, b.1, b.2⟩⟩
theorem own_nil {W : World} {base e s n c : Nat} {ao : Option Addr} {xs : List Value} (h : W.ownsRow base e s (.slice ao n c) n xs) : n ≤ c ∧ (ao = none → c = 0) := by
  rcases h.2 with ⟨h1, h2⟩ | ⟨g, cap, cur, h1, h2, h3, h4, -⟩
  · simp at h1; omega
  · simp at h1; obtain ⟨rfl, rfl⟩ := h1; exact ⟨h4, fun h => by cases h⟩
/-- a change of one's own: its edits in a stretch of blocks -/
structure Nw (lo hi : Nat) (W : World) (r : Nr) : Prop where
  ls : Ls lo hi W (.slice r.ea r.en r.ec) r.E
  len : r.E.length = r.en
  big : r.en * 56 ≤ 140737488355328
  ww : Mw r.was
  wm : Mw r.made
theorem Nw.nz {lo hi : Nat} {W : World} {r : Nr} (h : Nw lo hi W r) : Nz W r := by
  have ho := h.ls.rs.own 0 _ rfl
  have hn : W.ownsRow lo 77 3 (.slice r.ea r.en r.ec) r.en (ecs r.E) := by have := ho; dsimp only at this; rwa [h.len] at this
  obtain ⟨h1, h2⟩ := own_nil hn
  exact ⟨h.ls.ez, h.len, h1, h2, h.big, h.ww, h.wm⟩
theorem Nw.keep {lo hi : Nat} {W W' : World} {r : Nr} (h : Nw lo hi W r) (hb : Below W.heap.size W W') : Nw lo hi W' r := ⟨h.ls.keep hb, h.len, h.big, h.ww, h.wm⟩
theorem Nw.kept {lo hi a b : Nat} {W W' : World} {r : Nr} (h : Nw lo hi W r) (hk : Kept a b W W') (hd : b ≤ lo ∨ hi ≤ a) : Nw lo hi W' r := ⟨h.ls.kept hk hd, h.len, h.big, h.ww, h.wm⟩
/-- changes of one's own: each one's edits in a stretch, the stretches one behind the other, all from lo on and below hi, and B in none of them -/
structure Gow (lo hi : Nat) (W : World) (B : Nat) (H : List Nr) (S : List (Nat × Nat)) : Prop where
  len : S.length = H.length
  own : ∀ (k : Nat) (r : Nr) (p : Nat × Nat), H[k]? = some r → S[k]? = some p → Nw p.1 p.2 W r
  off : ∀ (k : Nat) (p : Nat × Nat), S[k]? = some p → (B + 1 ≤ p.1 ∨ p.2 ≤ B) ∧ lo ≤ p.1 ∧ p.1 ≤ p.2 ∧ p.2 ≤ hi
  ord : ∀ (j k : Nat) (p q : Nat × Nat), j ≠ k → S[j]? = some p → S[k]? = some q → p.2 ≤ q.1 ∨ q.2 ≤ p.1
theorem Gow.nil (lo hi : Nat) (W : World) (B : Nat) : Gow lo hi W B [] [] := ⟨rfl, fun k r p h => by simp at h, fun k p h => by simp at h, fun j k p q _ h => by simp at h⟩
theorem Gow.keep {lo hi B : Nat} {W W' : World} {H : List Nr} {S : List (Nat × Nat)} (h : Gow lo hi W B H S) (hb : Below W.heap.size W W') : Gow lo hi W' B H S := ⟨h.len, fun k r p h1 h2 => (h.own k r p h1 h2).keep hb, h.off, h.ord⟩
/-- something is written into B -/
theorem Gow.at {lo hi B : Nat} {W W' : World} {H : List Nr} {S : List (Nat × Nat)} (h : Gow lo hi W B H S) (hg : W.grownBy W' (some B)) : Gow lo hi W' B H S :=
  ⟨h.len, fun k r p h1 h2 => (h.own k r p h1 h2).kept (Kept.one hg) (h.off k p h2).1, h.off, h.ord⟩
theorem Gow.kept {lo hi a b B : Nat} {W W' : World} {H : List Nr} {S : List (Nat × Nat)} (h : Gow lo hi W B H S) (hk : Kept a b W W') (hd : b ≤ lo ∨ hi ≤ a) : Gow lo hi W' B H S :=
  ⟨h.len, fun k r p h1 h2 => (h.own k r p h1 h2).kept hk (by have := h.off k p h2; omega), h.off, h.ord⟩
theorem Gow.wide {lo hi lo' hi' B : Nat} {W : World} {H : List Nr} {S : List (Nat × Nat)} (h : Gow lo hi W B H S) (h1 : lo' ≤ lo) (h2 : hi ≤ hi') : Gow lo' hi' W B H S :=
  ⟨h.len, h.own, fun k p hp => by have := h.off k p hp; omega, h.ord⟩
/-- a change more -/
theorem Gow.snoc2 {lo hi lo' hi' B : Nat} {W : World} {H : List Nr} {S : List (Nat × Nat)} {r : Nr} {p : Nat × Nat} (h : Gow lo hi W B H S) (hr : Nw p.1 p.2 W r) (h1 : hi ≤ p.1 ∨ p.2 ≤ lo) (h2 : p.1 ≤ p.2) (h3 : p.2 ≤ hi' ∧ hi ≤ hi') (h4 : lo' ≤ lo ∧ lo' ≤ p.1) (hB : B + 1 ≤ p.1 ∨ p.2 ≤ B) : Gow lo' hi' W B (H ++ [r]) (S ++ [p]) := by
  refine ⟨by simp [h.len], fun k x q hk hq => ?_, fun k q hq => ?_, fun j k q q' hjk hj hk => ?_⟩
  · rcases snoc_at hk with hk' | ⟨e, rfl⟩
    · rcases snoc_at hq with hq' | ⟨e, rfl⟩
      · exact h.own k x q hk' hq'
      · have := (List.getElem?_eq_some_iff.1 hk').1; have := h.len; omega
    · rcases snoc_at hq with hq' | ⟨e', rfl⟩
      · have := (List.getElem?_eq_some_iff.1 hq').1; have := h.len; omega
      · exact hr
  · rcases snoc_at hq with hq' | ⟨e, rfl⟩
    · have := h.off k q hq'; omega
    · omega
  · rcases snoc_at hk with hk' | ⟨e, rfl⟩
    · rcases snoc_at hj with hj' | ⟨e', rfl⟩
      · exact h.ord j k q q' hjk hj' hk'
      · have := h.off k q' hk'; omega
    · rcases snoc_at hj with hj' | ⟨e', rfl⟩
      · have := h.off j q hj'; omega
      · omega
theorem Gow.snoc {lo hi hi' B : Nat} {W : World} {H : List Nr} {S : List (Nat × Nat)} {r : Nr} {p : Nat × Nat} (h : Gow lo hi W B H S) (hr : Nw p.1 p.2 W r) (h1 : hi ≤ p.1) (h2 : p.1 ≤ p.2) (h3 : p.2 ≤ hi') (h4 : lo ≤ hi) (hB : B + 1 ≤ p.1 ∨ p.2 ≤ B) : Gow lo hi' W B (H ++ [r]) (S ++ [p]) := h.snoc2 hr (.inl h1) h2 ⟨h3, by omega⟩ ⟨Nat.le_refl _, by omega⟩ hB
/-- a change with other numbers and marks -/
theorem Gow.set {lo hi B k : Nat} {W : World} {H : List Nr} {S : List (Nat × Nat)} {r r' : Nr} (h : Gow lo hi W B H S) (hr : H[k]? = some r) (he : r'.ea = r.ea ∧ r'.en = r.en ∧ r'.ec = r.ec ∧ r'.E = r.E) (hw : Mw r'.was) (hm : Mw r'.made) : Gow lo hi W B (H.set k r') S := by
  refine ⟨by simp [h.len], fun j x p hj hp => ?_, h.off, h.ord⟩
  rcases set_at hj with ⟨_, hj⟩ | ⟨rfl, rfl⟩
  · exact h.own j x p hj hp
  · obtain ⟨h1, h2, h3, h4, h5⟩ := h.own j r p hr hp
    obtain ⟨e1, e2, e3, e4⟩ := he
    exact ⟨by rw [e1, e2, e3, e4]; exact h1, by rw [e4, e2]; exact h2, by rw [e2]; exact h3, hw, hm⟩
theorem Gow.nz {lo hi B k : Nat} {W : World} {H : List Nr} {S : List (Nat × Nat)} {r : Nr} (h : Gow lo hi W B H S) (hr : H[k]? = some r) : Nz W r := by
  obtain ⟨p, hp⟩ : ∃ p, S[k]? = some p := ⟨_, List.getElem?_eq_getElem (by have := (List.getElem?_eq_some_iff.1 hr).1; have := h.len; omega)⟩
  exact (h.own k r p hr hp).nz
/-- changes as cells -/
def ncs (G : List Nr) : List Value := G.flatMap Nr.cs
theorem ncs_nil : ncs [] = [] := rfl
theorem ncs_cons (r : Nr) (G : List Nr) : ncs (r :: G) = r.cs ++ ncs G := rfl
theorem ncs_append (A C : List Nr) : ncs (A ++ C) = ncs A ++ ncs C := by simp [ncs]
theorem ncs_one (G : List Nr) : ∀ u ∈ ncs G, u.oneCell' = true := by
  intro u hu
  obtain ⟨r, _, hr⟩ := List.mem_flatMap.1 hu
  exact r.one u hr
def Ok58 (G : List Nr) : Prop := ∀ r ∈ G, r.cs.length = 58
theorem ncs_len {G : List Nr} (h : Ok58 G) : (ncs G).length = G.length * 58 := by
  induction G with
  | nil => rfl
  | cons r G ih =>
    rw [ncs_cons, List.length_append, ih (fun x hx => h x (by simp [hx])), h r (by simp), List.length_cons]
    omega
theorem ncs_split {G : List Nr} {k : Nat} {r : Nr} (hk : G[k]? = some r) : ncs G = ncs (G.take k) ++ r.cs ++ ncs (G.drop (k + 1)) := by
  obtain ⟨hi, rfl⟩ := List.getElem?_eq_some_iff.1 hk
  conv => lhs; rw [← List.take_append_drop k G, ncs_append, List.drop_eq_getElem_cons hi, ncs_cons]
  rw [List.append_assoc]
theorem ncs_set {G : List Nr} {k : Nat} {r : Nr} (r' : Nr) (hk : G[k]? = some r) : ncs (G.set k r') = ncs (G.take k) ++ r'.cs ++ ncs (G.drop (k + 1)) := by
  have h := ncs_split (G := G.set k r') (k := k) (r := r') (by rw [List.getElem?_set_self (List.getElem?_eq_some_iff.1 hk).1])
  rw [h, List.take_set, List.set_eq_of_length_le (by rw [List.length_take]; omega), List.drop_set_of_lt (by omega)]
theorem Ok58.take {G : List Nr} (h : Ok58 G) (k : Nat) : Ok58 (G.take k) := fun r hr => h r (List.mem_of_mem_take hr)
theorem Ok58.pre {G : List Nr} (h : Ok58 G) {k : Nat} (hk : k ≤ G.length) : (ncs (G.take k)).length = k * 58 := by rw [ncs_len (h.take k), List.length_take]; congr 1; omega
/-- changes in a block -/
def Nrow (W : World) (B : Nat) (H : List Nr) (X : List Value) : Prop := Blk W B 63 (ncs H ++ X).toArray
theorem Nrow.keep {W W' : World} {B : Nat} {H : List Nr} {X : List Value} (h : Nrow W B H X) (hb : Below W.heap.size W W') : Nrow W' B H X := Blk.keep h hb
theorem Nrow.range {W : World} {B k : Nat} {H : List Nr} {X : List Value} {r : Nr} (h : Nrow W B H X) (ho : Ok58 H) (hk : H[k]? = some r) : W.rangeAt B (k * 58) r.cs := by
  have hl := ho.pre (k := k) (by have := (List.getElem?_eq_some_iff.1 hk).1; omega)
  have e : ncs H ++ X = ncs (H.take k) ++ r.cs ++ (ncs (H.drop (k + 1)) ++ X) := by rw [ncs_split hk, List.append_assoc]
  unfold Nrow at h
  rw [e] at h
  have := blk_range h
  rwa [hl] at this
theorem Nrow.nc {W : World} {B k : Nat} {H : List Nr} {X : List Value} {r : Nr} (h : Nrow W B H X) (ho : Ok58 H) (hk : H[k]? = some r) (hw : r.was.length = 27) : Nc W B (k * 58) r := Nc.of (h.range ho hk) hw
/-- cells of one change are written over -/
theorem Nrow.put {W : World} {B k : Nat} {H : List Nr} {X a old b vs : List Value} {r r' : Nr} (h : Nrow W B H X) (ho : Ok58 H) (hk : H[k]? = some r) (h1 : r.cs = a ++ old ++ b) (h2 : r'.cs = a ++ vs ++ b) (hl : old.length = vs.length) : Nrow (W.setCells B (k * 58 + a.length) vs) B (H.set k r') X := by
  have hp := ho.pre (k := k) (by have := (List.getElem?_eq_some_iff.1 hk).1; omega)
  have e1 : ncs H ++ X = (ncs (H.take k) ++ a) ++ old ++ (b ++ ncs (H.drop (k + 1)) ++ X) := by rw [ncs_split hk, h1]; simp only [List.append_assoc]
  have e2 : ncs (H.set k r') ++ X = (ncs (H.take k) ++ a) ++ vs ++ (b ++ ncs (H.drop (k + 1)) ++ X) := by rw [ncs_set r' hk, h2]; simp only [List.append_assoc]
  unfold Nrow at h ⊢
  rw [e1] at h
  rw [e2]
  have := blk_setCells vs _ old _ hl h
  rwa [List.length_append, hp] at this
theorem Nrow.there {W : World} {B k : Nat} {H : List Nr} {X a old b : List Value} {r : Nr} (h : Nrow W B H X) (ho : Ok58 H) (hk : H[k]? = some r) (h1 : r.cs = a ++ old ++ b) : W.there B (k * 58 + a.length) old.length := by
  have hp := ho.pre (k := k) (by have := (List.getElem?_eq_some_iff.1 hk).1; omega)
  have e1 : ncs H ++ X = (ncs (H.take k) ++ a) ++ old ++ (b ++ ncs (H.drop (k + 1)) ++ X) := by rw [ncs_split hk, h1]; simp only [List.append_assoc]
  unfold Nrow at h
  rw [e1] at h
  have := blk_there h
  rwa [List.length_append, hp] at this
theorem setCells_one (W : World) (B o : Nat) (v : Value) : W.setCells B o [v] = W.setCell ⟨B, o, none⟩ v := rfl
theorem Gow.ok {lo hi B : Nat} {W : World} {H : List Nr} {S : List (Nat × Nat)} (h : Gow lo hi W B H S) : Ok58 H := fun r hr => by
  obtain ⟨k, hk⟩ := List.getElem?_of_mem hr
  exact (h.nz hk).cl
theorem Grz.ok {W : World} {ao : Option Addr} {G : List Nr} (h : Grz W ao G) : Ok58 G := fun r hr => by
  obtain ⟨k, hk⟩ := List.getElem?_of_mem hr
  exact (h.nds k r hk).cl
/-- a history of one's own reads as one -/
theorem Gow.grz {lo hi B : Nat} {W : World} {H : List Nr} {S : List (Nat × Nat)} {X : List Value} (h : Gow lo hi W B H S) (hr : Nrow W B H X) : Grz W (some ⟨B, 0, none⟩) H :=
  ⟨fun k r hk => ⟨B, 0, rfl, by rw [Nat.zero_add]; exact hr.range h.ok hk⟩, fun k r hk => h.nz hk⟩
/-- changes in memory as a source of cells -/
theorem Grz.src {W : World} {g o : Nat} {G : List Nr} (h : Grz W (some ⟨g, o, none⟩) G) : ∀ (j : Nat) (v : Value), (ncs G)[j]? = some v → W.cell? ((⟨g, o, none⟩ : Addr).add j) = some v := fun j v hj => by
  have hl := (List.getElem?_eq_some_iff.1 hj).1
  rw [ncs_len h.ok] at hl
  obtain ⟨k, i, rfl, hi⟩ : ∃ k i, j = k * 58 + i ∧ i < 58 := ⟨j / 58, j % 58, by omega, by omega⟩
  obtain ⟨r, hr⟩ : ∃ r, G[k]? = some r := ⟨_, List.getElem?_eq_getElem (by omega)⟩
  obtain ⟨g', o', h1, h2⟩ := h.row k r hr
  simp at h1
  obtain ⟨rfl, rfl⟩ := h1
  have hp := h.ok.pre (k := k) (by omega)
  have hc := (h.nds k r hr).cl
  rw [ncs_split hr, List.append_assoc, List.getElem?_append_right (by omega), hp, show k * 58 + i - k * 58 = i by omega, List.getElem?_append_left (by omega)] at hj
  rw [add_none, ← Nat.add_assoc]
  exact h2 i v hj
theorem copy63 (w : World) (ty b n dc : Nat) (a : Addr) (sc : Nat) (cs : List Value) (hl : cs.length = n * 58) (hsrc : ∀ j v, cs[j]? = some v → w.cell? (a.add j) = some v) (ht : w.there b 0 (n * 58)) (h1 : ∀ v ∈ cs, v.oneCell' = true) :
    (Builtin.copy_ #[22, 22] ty #[.slice (some ⟨b, 0, none⟩) n dc, .slice (some a) n sc]).run Try.prog w = .ok (goInt n) (w.setCells b 0 cs) := by
  have hlc := run_loadCells_list (P := Try.prog) w a cs hsrc
  have hst := run_storeCells_cells (P := Try.prog) b 0 cs 0 w (fun j hj => by have := (ht j (by omega)).1; simpa using this) (fun j hj => by have := (ht j (by omega)).2; simpa using this) h1
  have hs := info63
  cases hq : Try.prog.info? 63 with
  | none => simp [hq] at hs
  | some i =>
    have hi : i.size = 58 := by simpa [hq] using hs
    simp [Builtin.copy_, run_underlying Try.underlying22, Builtin.lenOf, Builtin.firstCells, sizeOf, typeInfo, hq, hi, ← hl, hlc, hst]
end Go.Proofs.Ytaahklapoppgaaa

