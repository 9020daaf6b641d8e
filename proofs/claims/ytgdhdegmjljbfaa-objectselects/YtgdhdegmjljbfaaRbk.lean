/- The reference's pairs, bracketed and kept. -/
import Derived.Test.YtgdhdegmjljbfaaRhd
import Derived.Test.YtgdhdegmjljbfaaAwk
namespace Go.Proofs.Ytgdhdegmjljbfaa
open Go.RowKit
/-- pairs as runs without a gap -/
def pq (P : List (Nat × Nat)) : List Rn3 := P.map fun x => (x.1, x.2, false)
theorem pq_snoc (P : List (Nat × Nat)) (x : Nat × Nat) : pq (P ++ [x]) = pq P ++ [(x.1, x.2, false)] := by simp [pq]
theorem pq_len (P : List (Nat × Nat)) : (pq P).length = P.length := by simp [pq]
theorem pq_at {P : List (Nat × Nat)} {i : Nat} {x : Nat × Nat} (h : P[i]? = some x) : (pq P)[i]? = some (x.1, x.2, false) := by simp [pq, h]
set_option maxRecDepth 8000 in
set_option maxHeartbeats 8000000 in
theorem pairs_any (ao : Option Addr) (n c : Nat) (o cl : Int) (hoc : ¬ o = cl) (l : List UInt8) (w : World) (hn : n ≤ 4398046511103) (HT : Hid (Tx w ao n c l)) :
    Calls Try.prog 36 #[.slice ao n c, .int .u8 o, .int .u8 cl] w fun e w' => ∃ v, e = .returned v ∧ w'.ownsRow w.heap.size 48 3 v (prs l o cl).length (rvs (pq (prs l o cl))) ∧ Below w.heap.size w w' := by
  obtain ⟨i48, hi7, hz7, hs7, hb7⟩ := info_parts info48
  obtain ⟨i3, hi3, hz3, hs3, hb3⟩ := info_parts info3
  have hl := HT.out.len
  have HPR : Hid (prs l o cl = (bst l o cl n).1) := by unfold Hid prs; rw [hl]
  go_enter Try.func36, Try.ntmps36
  go_wp2_with fail
  go_loopg [7, 8, 9] n (fun g x7 x8 x9 wx => ∃ i : Nat, x9 = .int .i64 (i : Int) ∧ i + g = n ∧ Hid (wx.ownsRow w.heap.size 48 3 x7 (bst l o cl i).1.length (rvs (pq (bst l o cl i).1))) ∧ Hid (wx.ownsRow w.heap.size 3 1 x8 (bst l o cl i).2.length (sv (bst l o cl i).2)) ∧ Hid (Below w.heap.size w wx))
  case atStart => exact ⟨0, rfl, by omega, World.ownsRow_nil _ _ _ _, World.ownsRow_nil _ _ _ _, Below.refl _ _⟩
  case round =>
    obtain ⟨i, rfl, hi, HP, HO, HB⟩ := hrel
    obtain ⟨ap, cp9, hpp⟩ := own_shape HP.out
    subst hpp
    obtain ⟨ax, cx9, hax⟩ := own_shape HO.out
    subst hax
    have HSL := Hid.mk' (bst_len l o cl i)
    obtain ⟨S, HS⟩ : ∃ S, Hid ((bst l o cl i).2 = S) := ⟨_, rfl⟩
    obtain ⟨Q, HQ⟩ : ∃ Q, Hid ((bst l o cl i).1 = Q) := ⟨_, rfl⟩
    rw [HS.out] at HO HSL ⊢
    rw [HQ.out] at HP HSL ⊢
    cases gk with
    | zero =>
      have h1 : ¬ ((i : Int) < (n : Int)) := by omega
      have HF : Hid (wr.ownsRow w.heap.size 48 3 (.slice ap Q.length cp9) (prs l o cl).length (rvs (pq (prs l o cl)))) := by
        unfold Hid; rw [HPR.out, show n = i by omega, HQ.out]; exact HP.out
      go_wp2
      all_goals go_ret
      all_goals exact ⟨_, rfl, HF.out, HB.out⟩
    | succ g =>
      have hin : i < n := by omega
      have h0 : (0 : Int) ≤ (i : Int) := by omega
      have h1 : (i : Int) < (n : Int) := by omega
      have hw1 : IntKind.i64.wrap ((i : Int) + 1) = ((i + 1 : Nat) : Int) := by rw [IntKind.wrap_i64]; omega
      obtain ⟨gg, og, rfl, hcl⟩ := (HT.out.keep HB.out).at (by omega)
      have hcq : wr.cell? ⟨gg, og + i, none⟩ = some (.int .u8 (bi l i)) := hcl i hin
      have hgg : gg < wr.heap.size := lt_of_cell hcq
      have HTW := Hid.mk' (fun W (hb : Below w.heap.size w W) => ((HT.out.keep hb).cells _ rfl i hin))
      clear hcl
      have hSn : S.length ≤ n := by have := HSL.out; omega
      have hQn : Q.length ≤ n := by have := HSL.out; omega
      have hSL : (S.length : Int) ≤ 4398046511104 := by omega
      by_cases ho : bi l i = o
      · have he1 : (bi l i == o) = true := by simp [ho]
        have he2 : (bi l i == cl) = false := by rw [ho]; simpa using hoc
        have HN := Hid.mk' (bst_open (c := cl) ho)
        have HTW2 : Hid (∀ W, Below w.heap.size w W → W.cell? ⟨gg, og + i, none⟩ = some (.int .u8 (bi l i))) := fun W hb => by have := HTW.out W hb; rwa [add_none] at this
        clear ho HTW
        generalize bi l i = b at *
        go_wp2_with (at_builtin; refine append_srv rfl (.tmp 22) (.tmp 24) 63 rfl w.heap.size 3 i3 (.int .i64 0) 1 8 Try.underlying63 hi3 hz3 hs3 hb3 rfl (by decide) (.slice ax S.length cx9) S.length (sv S) rfl (HO.out.alloc _) (.slice (some ⟨wr.heap.size, 0, none⟩) 1 1) 1 [.int .i64 (i : Int)] rfl (.inr ⟨⟨wr.heap.size, 0, none⟩, 1, rfl, fun k u hk => lit_cells wr _ 3 k u hk⟩) rfl (one64 _) (by unfold maxLen; omega) (by omega) (by have := HB.out.size; simp; omega) ?_)
        intro v2 w5 hown hgrow _
        have L2 : Hid (Below w.heap.size w w5) := (bAlloc HB.out _).grown hgrow (bAlloc HB.out _).size (fun k hk => (HO.out.lt k hk).1)
        have O2 : Hid (w5.ownsRow w.heap.size 3 1 v2 (i :: S).length (sv (i :: S))) := by unfold Hid; rw [sv_cons, List.length_cons]; exact hown
        have P2 : Hid (w5.ownsRow w.heap.size 48 3 (.slice ap Q.length cp9) Q.length (rvs (pq Q))) := (HP.out.alloc _).kept hgrow ((far_type HP.out HO.out (by decide)).ne)
        have c5 := HTW2.out _ L2.out
        clear hown hgrow hcq
        go_wp2
        go_roundg g
        case measure => omega
        case rel => exact ⟨i + 1, by go_num, by omega, by rw [HN.out, HQ.out]; exact P2.out, by rw [HN.out, HS.out]; exact O2.out, L2.out⟩
      · have he1 : (bi l i == o) = false := by simp [ho]
        by_cases hcc : bi l i = cl
        · have he2 : (bi l i == cl) = true := by simp [hcc]
          cases S with
          | nil =>
            have HN := Hid.mk' (bst_left (c := cl) ho HS.out)
            clear ho hcc HTW
            generalize bi l i = b at *
            go_wp2_with fail
            go_roundg g
            case measure => omega
            case rel => exact ⟨i + 1, by go_num, by omega, by rw [HN.out, HQ.out]; exact HP.out, by rw [HN.out, HS.out]; exact HO.out, HB.out⟩
          | cons s S =>
            obtain ⟨gs, rfl, hcx, hctop⟩ := sv_top HO.out
            have O2 := Hid.mk' (sv_pop HO.out)
            have HN := Hid.mk' (bst_pair ho hcc HS.out)
            obtain ⟨m, hm⟩ : ∃ m, m = (s :: S).length := ⟨_, rfl⟩
            have hm1 : m = S.length + 1 := by rw [hm]; simp
            have hmn : m ≤ n := by rw [hm]; exact hSn
            rw [← hm]
            clear hm hSL ho hcc HTW
            generalize bi l i = b at *
            have hlast : IntKind.i64.wrap ((m : Int) - 1) = (S.length : Int) := by rw [IntKind.wrap_i64]; omega
            have hl0 : (0 : Int) ≤ (S.length : Int) := by omega
            have hl1 : (S.length : Int) < (m : Int) := by omega
            have hl2 : (S.length : Int) ≤ (cx9 : Int) := by omega
            have hl3 : (0 : Int) < (m : Int) := by omega
            clear hm1
            go_wp2_with (at_builtin; refine append_srv rfl (.tmp 37) (.tmp 46) 49 rfl w.heap.size 48 i48 (.agg #[.int .i64 0, .int .i64 0, .bool false]) 3 24 Try.underlying49 hi7 hz7 hs7 hb7 rfl (by decide) (.slice ap Q.length cp9) Q.length (rvs (pq Q)) rfl (HP.out.alloc _) (.slice (some ⟨wr.heap.size, 0, none⟩) 1 1) 1 [.int .i64 (s : Int), .int .i64 (i : Int), .bool false] rfl (.inr ⟨⟨wr.heap.size, 0, none⟩, 1, rfl, fun k u hk => lit_cells wr _ 48 k u hk⟩) rfl (one3 _ _ _) (by unfold maxLen; omega) (by omega) (bAlloc HB.out _).size ?_)
            intro v2 w5 hown hgrow _
            have L2 : Hid (Below w.heap.size w w5) := (bAlloc HB.out _).grown hgrow (bAlloc HB.out _).size (fun k hk => (HP.out.lt k hk).1)
            have P2 : Hid (w5.ownsRow w.heap.size 48 3 v2 (Q ++ [(s, i)]).length (rvs (pq (Q ++ [(s, i)])))) := by unfold Hid; rw [pq_snoc, rvs_snoc, List.length_append]; exact hown
            have O3 : Hid (w5.ownsRow w.heap.size 3 1 (.slice (some ⟨gs, 0, none⟩) S.length cx9) S.length (sv S)) := (O2.out.alloc _).kept hgrow ((far_type O2.out HP.out (by decide)).ne)
            clear hown hgrow hcq
            go_wp2
            go_roundg g
            case measure => omega
            case rel => exact ⟨i + 1, by go_num, by omega, by rw [HN.out, HQ.out]; exact P2.out, by rw [HN.out]; exact O3.out, L2.out⟩
        · have he2 : (bi l i == cl) = false := by simp [hcc]
          have HN := Hid.mk' (bst_none ho hcc)
          clear ho hcc HTW
          generalize bi l i = b at *
          go_wp2
          go_roundg g
          case measure => omega
          case rel => exact ⟨i + 1, by go_num, by omega, by rw [HN.out, HQ.out]; exact HP.out, by rw [HN.out, HS.out]; exact HO.out, HB.out⟩
theorem pa_take {P : List (Nat × Nat)} {q i : Nat} {x : Nat × Nat} (h : P[i]? = some x) : pa (P.take (i + 1)) q = pa (P.take i) q ++ pa [x] q := by
  obtain ⟨h1, h2⟩ := List.getElem?_eq_some_iff.1 h
  rw [List.take_succ_eq_append_getElem h1, pa_append, h2]
theorem pa_nth {P : List (Nat × Nat)} {q i n : Nat} {x : Nat × Nat} (h : P[i]? = some x) (hx : x.1 ≤ q ∧ q ≤ x.2) (hn : (pa (P.take i) q).length + 1 = n) : (pa P q)[n - 1]? = some x := by
  obtain ⟨h1, h2⟩ := List.getElem?_eq_some_iff.1 h
  have e : P = P.take (i + 1) ++ P.drop (i + 1) := (List.take_append_drop _ _).symm
  rw [e, pa_append, pa_take h]
  have e2 : pa [x] q = [x] := by simp [pa, hx]
  rw [e2, List.append_assoc, List.getElem?_append_right (by omega), show n - 1 - (pa (P.take i) q).length = 0 by omega]
  rfl
set_option maxRecDepth 8000 in
set_option maxHeartbeats 8000000 in
theorem rbracketed_any (ao : Option Addr) (n c q cnt : Nat) (o cl : Int) (hoc : ¬ o = cl) (a : Bool) (l : List UInt8) (w : World) (hn : n ≤ 4398046511103) (hc1 : 1 ≤ cnt) (hc2 : cnt ≤ 9999) (HT : Hid (Tx w ao n c l)) :
    Calls Try.prog 25 #[.slice ao n c, .int .i64 (q : Int), .int .i64 (cnt : Int), .int .u8 o, .int .u8 cl, .bool a] w fun e w' => e = ra ((ba l o cl q cnt).map fun x => if a then (x.1, x.2 + 1) else (x.1 + 1, x.2)) ∧ Below w.heap.size w w' := by
  have hl := HT.out.len
  have CP := Hid.mk' (fun W (hb : Below w.heap.size w W) => pairs_any ao n c o cl hoc l W hn (HT.out.keep hb))
  have HBA : Hid (ba l o cl q cnt = (pa (prs l o cl) q)[cnt - 1]?) := rfl
  have HPM := Hid.mk' (fun x (h : x ∈ prs l o cl) => prs_mem h)
  have HLN : Hid ((prs l o cl).length ≤ n) := by
    unfold Hid prs
    have := bst_len l o cl l.length
    omega
  generalize ba l o cl q cnt = r at *
  generalize prs l o cl = P at *
  go_enter Try.func25, Try.ntmps25
  go_wp2_with fail
  refine (CP.out _ (bAlloc (Below.refl _ _) _)).mono ?_
  rintro e w3 ⟨v, rfl, ho3, hb3⟩
  obtain ⟨av, cv, hv⟩ := own_shape ho3
  subst hv
  have KB := Hid.mk' ((Blk.new w 48 #[.int .i64 0, .int .i64 0, .bool false]).keep hb3)
  have O3 := Hid.mk' ho3
  have B3 := Hid.mk' (bT (bAlloc (Below.refl _ _) _) hb3)
  have k0 : w3.cell? ⟨w.heap.size, 0, none⟩ = some (.int .i64 0) := KB.out.cell (j := 0) rfl
  have k1' : w3.cell? ⟨w.heap.size, 1, none⟩ = some (.int .i64 0) := KB.out.cell (j := 1) rfl
  have k2' : w3.cell? ⟨w.heap.size, 2, none⟩ = some (.bool false) := KB.out.cell (j := 2) rfl
  have f9 := KB.out.frozen
  have hPn := HLN.out
  clear hb3 ho3
  go_wp2_with fail
  go_loopg [2, 15] P.length (fun g x2 x15 wx => ∃ i k : Nat, x15 = .int .i64 (i : Int) ∧ x2 = .int .i64 (k : Int) ∧ i + g = P.length ∧ 1 ≤ k ∧ k ≤ 9999 ∧ Hid (k + (pa (P.take i) q).length = cnt) ∧ w3 = wx)
  case atStart => exact ⟨0, cnt, rfl, rfl, by omega, hc1, hc2, by simp [Hid, pa], rfl⟩
  case round =>
    obtain ⟨i, k, rfl, rfl, hi, hk1, hk2, HK, rfl⟩ := hrel
    cases gk with
    | zero =>
      have h1 : ¬ ((i : Int) < (P.length : Int)) := by omega
      have HN : Hid (r = none) := by
        have h2 := HK.out
        rw [List.take_of_length_le (by omega)] at h2
        unfold Hid
        rw [HBA.out]
        exact List.getElem?_eq_none (by omega)
      go_wp2
      all_goals exact bodyPost_ret (v := .tuple #[.agg #[.int .i64 0, .int .i64 0, .bool false], .int .i64 130]) (by simp [results, Try.results25, go_sem, k0, k1', k2']) rfl ⟨by rw [HN.out]; rfl, bset (bset (bset B3.out _ (Nat.le_refl _)) _ (Nat.le_refl _)) _ (Nat.le_refl _)⟩
    | succ g =>
      have hil : i < P.length := by omega
      have h0 : (0 : Int) ≤ (i : Int) := by omega
      have h1 : (i : Int) < (P.length : Int) := by omega
      have hx : P[i]? = some P[i] := List.getElem?_eq_getElem hil
      have HXM := HPM.out _ (List.mem_of_getElem? hx)
      have HO' : w3.ownsRow (w.alloc (.cells #[.int .i64 0, .int .i64 0, .bool false] 48)).heap.size 48 3 (.slice av (pq P).length cv) (pq P).length (rvs (pq P)) := by rw [pq_len]; exact O3.out
      obtain ⟨gb, eb, cA, cB, -⟩ := rrun_cells HO' (pq_at hx)
      subst eb
      have hgb : gb < w3.heap.size := lt_of_cell cA
      have HTK := Hid.mk' (pa_take (q := q) hx)
      have HNT := Hid.mk' (fun hq hn => pa_nth (q := q) (n := cnt) hx hq hn)
      have hgne : ¬ gb = w.heap.size := by
        have h9 := (HO'.lt gb rfl).1
        simp at h9
        omega
      have hgne' : ¬ w.heap.size = gb := fun h => hgne h.symm
      generalize P[i] = x at *
      obtain ⟨x1, x2⟩ := x
      simp only at cA cB HXM
      clear hx HO'
      have hw1 : IntKind.i64.wrap ((i : Int) + 1) = ((i + 1 : Nat) : Int) := by rw [IntKind.wrap_i64]; omega
      have hwk : IntKind.i64.wrap ((k : Int) - 1) = ((k - 1 : Nat) : Int) := by rw [IntKind.wrap_i64]; omega
      by_cases hq : x1 ≤ q ∧ q ≤ x2
      · have q1 : (x1 : Int) ≤ (q : Int) := by omega
        have q2 : (q : Int) ≤ (x2 : Int) := by omega
        have HP1 : Hid ((pa (P.take (i + 1)) q).length = (pa (P.take i) q).length + 1) := by unfold Hid; rw [HTK.out, List.length_append]; congr 1; simp [pa, hq]
        obtain ⟨K9, HK9⟩ : ∃ K9, Hid (k - 1 = K9) := ⟨_, rfl⟩
        rw [HK9.out] at hwk
        by_cases hk0 : k = 1
        · have hk3 : ¬ ((0 : Int) < (K9 : Int)) := by have := HK9.out; omega
          have HN : Hid (r = some (x1, x2)) := by unfold Hid; rw [HBA.out]; exact HNT.out hq (by have := HK.out; omega)
          have e1 : IntKind.i64.wrap ((x1 : Int) + 1) = ((x1 + 1 : Nat) : Int) := by rw [IntKind.wrap_i64]; omega
          have e2 : IntKind.i64.wrap ((x2 : Int) + 1) = ((x2 + 1 : Nat) : Int) := by rw [IntKind.wrap_i64]; omega
          clear hq
          cases a with
          | true =>
            go_wp2_with fail
            all_goals go_region
            all_goals go_wp2
            all_goals exact bodyPost_ret (v := .tuple #[.agg #[.int .i64 (x1 : Int), .int .i64 ((x2 + 1 : Nat) : Int), .bool false], .int .i64 0]) (by simp [results, Try.results25, go_sem, k0, k1', k2']) rfl ⟨by rw [HN.out]; rfl, bset (bset (bset B3.out.drew _ (Nat.le_refl _)) _ (Nat.le_refl _)) _ (Nat.le_refl _)⟩
          | false =>
            go_wp2_with fail
            all_goals go_region
            all_goals go_wp2
            all_goals exact bodyPost_ret (v := .tuple #[.agg #[.int .i64 ((x1 + 1 : Nat) : Int), .int .i64 (x2 : Int), .bool false], .int .i64 0]) (by simp [results, Try.results25, go_sem, k0, k1', k2']) rfl ⟨by rw [HN.out]; rfl, bset (bset (bset B3.out.drew _ (Nat.le_refl _)) _ (Nat.le_refl _)) _ (Nat.le_refl _)⟩
        · have hk3 : (0 : Int) < (K9 : Int) := by have := HK9.out; omega
          clear hq
          go_wp2
          go_roundg g
          case measure => omega
          case rel => exact ⟨i + 1, K9, rfl, rfl, by omega, by have := HK9.out; omega, by have := HK9.out; omega, by unfold Hid; rw [HP1.out]; have := HK.out; have := HK9.out; omega, rfl⟩
      · have HP1 : Hid ((pa (P.take (i + 1)) q).length = (pa (P.take i) q).length) := by unfold Hid; rw [HTK.out, List.length_append]; simp [pa]; omega
        by_cases q1 : (q : Int) < (x1 : Int)
        · clear hq
          go_wp2
          go_roundg g
          case measure => omega
          case rel => exact ⟨i + 1, k, rfl, rfl, by omega, hk1, hk2, by unfold Hid; rw [HP1.out]; exact HK.out, rfl⟩
        · have q2 : (x2 : Int) < (q : Int) := by omega
          clear hq
          go_wp2
          go_roundg g
          case measure => omega
          case rel => exact ⟨i + 1, k, rfl, rfl, by omega, hk1, hk2, by unfold Hid; rw [HP1.out]; exact HK.out, rfl⟩
/-- the brackets that a key names, by the reference -/
def op9 (k : Int) : Int := if k = 40 ∨ k = 41 ∨ k = 98 then 40 else if k = 91 ∨ k = 93 then 91 else if k = 123 ∨ k = 125 ∨ k = 66 then 123 else 0
def cp9 (k : Int) : Int := if k = 40 ∨ k = 41 ∨ k = 98 then 41 else if k = 91 ∨ k = 93 then 93 else if k = 123 ∨ k = 125 ∨ k = 66 then 125 else 0
set_option maxHeartbeats 4000000 in
theorem kept_any (k : Int) (w : World) : Calls Try.prog 19 #[.int .u8 k] w fun e w' => e = .returned (.tuple #[.int .u8 (op9 k), .int .u8 (cp9 k)]) ∧ w' = w := by
  by_cases h : k = 40 ∨ k = 41 ∨ k = 98 ∨ k = 91 ∨ k = 93 ∨ k = 123 ∨ k = 125 ∨ k = 66
  · rcases h with rfl | rfl | rfl | rfl | rfl | rfl | rfl | rfl
    all_goals go_enter Try.func19, Try.ntmps19
    all_goals go_wp2
    all_goals go_ret2
    all_goals exact ⟨rfl, rfl⟩
  · have e1 : op9 k = 0 := by unfold op9; rw [if_neg (by omega), if_neg (by omega), if_neg (by omega)]
    have e2 : cp9 k = 0 := by unfold cp9; rw [if_neg (by omega), if_neg (by omega), if_neg (by omega)]
    have t1 : (k == 40) = false := by simp; omega
    have t2 : (k == 41) = false := by simp; omega
    have t3 : (k == 98) = false := by simp; omega
    have t4 : (k == 91) = false := by simp; omega
    have t5 : (k == 93) = false := by simp; omega
    have t6 : (k == 123) = false := by simp; omega
    have t7 : (k == 125) = false := by simp; omega
    have t8 : (k == 66) = false := by simp; omega
    rw [e1, e2]
    clear h e1 e2
    go_enter Try.func19, Try.ntmps19
    go_wp2
    all_goals go_ret2
    all_goals exact ⟨rfl, rfl⟩
end Go.Proofs.Ytgdhdegmjljbfaa
