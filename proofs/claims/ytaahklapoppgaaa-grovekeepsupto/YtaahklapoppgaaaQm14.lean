/- Marks against marks. -/
import Derived.Test.YtaahklapoppgaaaQm11
namespace Go.Proofs.Ytaahklapoppgaaa
open Go.RowKit

set_option maxRecDepth 8000
theorem eqin39 (w : World) (d : Nat) (M N : List Int) (hM : M.length = 26) (hN : N.length = 26) : (Op.equalIn (d + 2) 39 (.agg (mk M)) (.agg (mk N))).run Try.prog w = .ok (decide (M = N)) w := by
  have h3 : Try.prog.underlying 3 = some (.int .i64) := Try.underlying3
  have hsz : ∀ w, (sizeOf 3).run Try.prog w = .ok 1 w := fun w => by kernel_rfl
  rw [Op.equalIn]
  simp only [Sem.run_bind, run_underlying Try.underlying39, Result.andThen_ok, hsz, Std.Legacy.Range.forIn_eq_forIn_range', Std.Legacy.Range.size, Nat.sub_zero, Nat.add_sub_cancel, Nat.div_one]
  have hl : ∀ i ∈ List.range' 0 26 1, i < 26 := fun i hi => by simpa using (List.mem_range'_1.1 hi).2
  have hd : decide (M = N) = decide (∀ i ∈ List.range' 0 26 1, M.getD i 0 = N.getD i 0) := by
    apply decide_eq_decide.2
    constructor
    · intro h; subst h; exact fun _ _ => rfl
    · intro h
      apply List.ext_getElem (by omega)
      intro i h1 h2
      have := h i (List.mem_range'_1.2 ⟨by omega, by omega⟩)
      simpa [List.getD, h1, h2] using this
  rw [hd]
  generalize List.range' 0 26 1 = l at hl ⊢
  induction l with
  | nil => simp
  | cons i l ih =>
    have hi : i < 26 := hl i (by simp)
    obtain ⟨x, hx⟩ : ∃ x, M[i]? = some x := ⟨_, List.getElem?_eq_getElem (by omega)⟩
    obtain ⟨y, hy⟩ : ∃ y, N[i]? = some y := ⟨_, List.getElem?_eq_getElem (by omega)⟩
    have he := mk_at hx
    have he2 := mk_at hy
    have px : (part 3 (mk M) (i * 1)).run Try.prog w = .ok (.int .i64 x) w := by
      simp [part, isAgg, run_underlying h3, he]
    have py : (part 3 (mk N) (i * 1)).run Try.prog w = .ok (.int .i64 y) w := by
      simp [part, isAgg, run_underlying h3, he2]
    have pe : (Op.equalIn (d + 1) 3 (.int .i64 x) (.int .i64 y)).run Try.prog w = .ok (decide (x = y)) w := by
      rw [run_equalIn_int w d 3 .i64 .i64 _ _ h3]
      simp
      rfl
    have ex : M.getD i 0 = x := by simp [List.getD, hx]
    have ey : N.getD i 0 = y := by simp [List.getD, hy]
    simp only [List.forIn_cons, Sem.run_bind, px, py, pe, Result.andThen_ok]
    by_cases hxy : x = y
    · rw [decide_eq_true hxy]
      simp only [Bool.not_true, Bool.false_eq_true, if_false, Sem.run_pure, Result.andThen_ok]
      have e : decide (∀ k ∈ i :: l, M.getD k 0 = N.getD k 0) = decide (∀ k ∈ l, M.getD k 0 = N.getD k 0) := by
        apply decide_eq_decide.2
        constructor
        · exact fun h k hk => h k (by simp [hk])
        · intro h k hk
          rcases List.mem_cons.1 hk with rfl | hk
          · rw [ex, ey, hxy]
          · exact h k hk
      rw [e]
      exact ih fun j hj => hl j (by simp [hj])
    · have e : decide (∀ k ∈ i :: l, M.getD k 0 = N.getD k 0) = false := decide_eq_false fun h => hxy (by have := h i (by simp); rwa [ex, ey] at this)
      rw [decide_eq_false hxy, e]
      simp
theorem eqf_go {P : Program} {d : Nat} {xs ys : Array Value} {f : Field} {fs : List Field} {w : World} {a b : Value} {c e : Bool} (hn : f.name ≠ "_") (pa : (part f.type xs f.offset).run P w = .ok a w) (pb : (part f.type ys f.offset).run P w = .ok b w) (he : (Op.equalIn d f.type a b).run P w = .ok c w) (hr : (Op.eqFields d xs ys fs).run P w = .ok e w) : (Op.eqFields d xs ys (f :: fs)).run P w = .ok (c && e) w := by
  unfold Op.eqFields
  rw [if_pos hn]
  cases c with
  | true => simp only [Sem.run_bind, pa, pb, he, Result.andThen_ok, Bool.not_true, Bool.false_eq_true, if_false, hr, Bool.true_and]
  | false => simp [Sem.run_bind, pa, pb, he, Result.andThen_ok]
theorem eqi3 (w : World) (d : Nat) (p q : Int) : (Op.equalIn (d + 2) 3 (.int .i64 p) (.int .i64 q)).run Try.prog w = .ok (decide (p = q)) w := by
  rw [run_equalIn_int w (d + 1) 3 .i64 .i64 _ _ Try.underlying3]; simp; rfl
theorem eqi41 (w : World) (d : Nat) (A C : List Int) (hA : A.length = 27) (hC : C.length = 27) : (Op.equalIn (d + 3) 41 (.agg (mk A)) (.agg (mk C))).run Try.prog w = .ok (decide (A = C)) w := by
  obtain ⟨M, q, rfl, hM⟩ := parts24 hA
  obtain ⟨N, p, rfl, hN⟩ := parts24 hC
  rw [run_equalIn_struct w (d + 2) 41 _ _ undf24 held24, flds24]
  have h := eqf_go (P := Try.prog) (d := d + 2) (xs := mk (M ++ [q])) (ys := mk (N ++ [p])) (f := ⟨ "Names", 39, 0, false, "", "", 0⟩) (fs := [⟨ "Back", 3, 26, false, "", "", 208⟩]) (a := .agg (mk M)) (b := .agg (mk N)) (by decide) (part22 w M q hM) (part22 w N p hN) (eqin39 w d M N hM hN) (eqf_go (a := .int .i64 q) (b := .int .i64 p) (e := true) (by decide) (part3 w M q hM) (part3 w N p hN) (eqi3 w d q p) rfl)
  rw [h, Bool.and_true, ← Bool.decide_and]
  congr 1
  apply decide_eq_decide.2
  constructor
  · rintro ⟨rfl, rfl⟩; rfl
  · intro h
    have := List.append_inj h (by omega)
    exact ⟨this.1, by simpa using this.2⟩
theorem eql41 (w : World) (A C : List Int) (hA : A.length = 27) (hC : C.length = 27) : (binOp .eql 41 (.agg (mk A)) (.agg (mk C))).run Try.prog w = .ok (.bool (decide (A = C))) w := by
  rw [run_eql_struct, eqi41 w 9997 A C hA hC]; rfl
theorem neq41 (w : World) (A C : List Int) (hA : A.length = 27) (hC : C.length = 27) : (binOp .neq 41 (.agg (mk A)) (.agg (mk C))).run Try.prog w = .ok (.bool (!decide (A = C))) w := by
  rw [run_neq_struct, eqi41 w 9997 A C hA hC]; rfl
end Go.Proofs.Ytaahklapoppgaaa

/- The program's small questions: has, placed, idle, marked, sized. -/
namespace Go.Proofs.Ytaahklapoppgaaa
open Go.RowKit

set_option maxRecDepth 8000
theorem has_any (ao : Option Addr) (n c : Nat) (i : Int) (w : World) : Calls Try.prog 44 #[.slice ao n c, .int .i64 i] w fun e w' => e = .returned (.bool (decide (0 ≤ i ∧ i < (n : Int)))) ∧ w' = w := by
  by_cases h0 : 0 ≤ i
  · by_cases h1 : i < (n : Int)
    · rw [decide_eq_true ⟨h0, h1⟩]
      go_enter Try.func44, Try.ntmps44
      go_wp2
      go_ret
      exact ⟨rfl, rfl⟩
    · rw [decide_eq_false (fun h => h1 h.2)]
      go_enter Try.func44, Try.ntmps44
      go_wp2
      go_ret
      exact ⟨rfl, rfl⟩
  · rw [decide_eq_false (fun h => h0 h.1)]
    go_enter Try.func44, Try.ntmps44
    go_wp2
    go_ret
    exact ⟨rfl, rfl⟩
theorem placed_any (i : Int) (w : World) : Calls Try.prog 67 #[.int .i64 i] w fun e w' => e = .returned (.bool (decide (0 ≤ i ∧ i ≤ 2147483647))) ∧ w' = w := by
  by_cases h0 : 0 ≤ i
  · by_cases h1 : i ≤ 2147483647
    · rw [decide_eq_true ⟨h0, h1⟩]
      go_enter Try.func67, Try.ntmps67
      go_wp2
      go_ret
      exact ⟨rfl, rfl⟩
    · rw [decide_eq_false (fun h => h1 h.2)]
      go_enter Try.func67, Try.ntmps67
      go_wp2
      go_ret
      exact ⟨rfl, rfl⟩
  · rw [decide_eq_false (fun h => h0 h.1)]
    go_enter Try.func67, Try.ntmps67
    go_wp2
    go_ret
    exact ⟨rfl, rfl⟩
/-- an edit that a right history holds -/
theorem edok_dec (d : Ed) : tb (EdOk d) = (decide (0 ≤ d.a ∧ d.a ≤ 2147483647) && !(d.O == d.N)) := by
  refine tb_eq ?_
  unfold EdOk
  simp [Bool.and_eq_true]
set_option maxHeartbeats 1000000 in
theorem idle_any (r : Er) (w : World) (hE : Hid (Et w r)) : Calls Try.prog 69 #[.agg r.cs] w fun e w' => e = .returned (.bool (!tb (EdOk r.d))) ∧ Below w.heap.size w w' := by
  rw [edok_dec]
  obtain ⟨a, p1, o, c1, O, p2, n, c2, N⟩ := r
  have CE0 := equal_any p1 o c1 O p2 n c2 N (w.alloc (.cells #[.int .i64 a, .slice p1 o c1, .slice p2 n c2] 77)) (hE.out.t1.keep (bAlloc (Below.refl _ _) _)) (hE.out.t2.keep (bAlloc (Below.refl _ _) _))
  have CP0 := placed_any a (w.alloc (.cells #[.int .i64 a, .slice p1 o c1, .slice p2 n c2] 77))
  generalize hW1 : w.alloc (.cells #[.int .i64 a, .slice p1 o c1, .slice p2 n c2] 77) = W1 at *
  have L1 : Hid (Below w.heap.size w W1) := by subst hW1; exact bAlloc (Below.refl _ _) _
  have K1 : Hid (Blk W1 w.heap.size 77 #[.int .i64 a, .slice p1 o c1, .slice p2 n c2]) := by subst hW1; exact Blk.new w 77 _
  show Calls Try.prog 69 #[.agg #[.int .i64 a, .slice p1 o c1, .slice p2 n c2]] w fun e w' => e = .returned (.bool (!(decide (0 ≤ a ∧ a ≤ 2147483647) && !(O == N)))) ∧ Below w.heap.size w w'
  generalize (O == N) = q at *
  have k0 : W1.cell? ⟨w.heap.size, 0, none⟩ = some (.int .i64 a) := K1.out.cell rfl
  have k1 : W1.cell? ⟨w.heap.size, 1, none⟩ = some (.slice p1 o c1) := K1.out.cell rfl
  have k2 : W1.cell? ⟨w.heap.size, 2, none⟩ = some (.slice p2 n c2) := K1.out.cell rfl
  by_cases hp : 0 ≤ a ∧ a ≤ 2147483647
  · rw [decide_eq_true hp] at *
    have CP := mkH CP0
    have CE := mkH CE0
    clear CP0 CE0
    clear hp
    go_enter Try.func69, Try.ntmps69
    go_wp2_with (first | (go_at_call 67; refine CP.out.mono ?_; rintro e w2 ⟨rfl, hw⟩; have hq := hw.symm; subst hq; clear hw) | (go_at_call 84; refine CE.out.mono ?_; rintro e w2 ⟨rfl, hw⟩; have hq := hw.symm; subst hq; clear hw))
    go_ret
    exact ⟨by cases q <;> rfl, L1.out⟩
  · rw [decide_eq_false hp] at *
    have CP := mkH CP0
    clear CP0 CE0
    clear hp
    go_enter Try.func69, Try.ntmps69
    go_wp2_with (first | (go_at_call 67; refine CP.out.mono ?_; rintro e w2 ⟨rfl, hw⟩; have hq := hw.symm; subst hq; clear hw) | fail)
    go_ret
    exact ⟨rfl, L1.out⟩
theorem mok_fit {L : List Int} (h : Mw L) : fitL L 9223372036854775807 = tb (MOk L) := by
  refine (tb_eq ?_).symm
  unfold fitL MOk
  rw [List.all_eq_true]
  constructor
  · intro h1 x hx
    have := h1 x hx
    unfold ft at this
    have := of_decide_eq_true this
    omega
  · intro h1 x hx
    have h2 := h1 x hx
    have h3 := h.big x hx
    unfold ft
    exact decide_eq_true (by omega)
set_option maxHeartbeats 1000000 in
theorem marked_any (L : List Int) (w : World) (hL : Mw L) : Calls Try.prog 70 #[.agg (mk L)] w fun e w' => e = .returned (.bool (tb (MOk L))) ∧ Below w.heap.size w w' := by
  have C0 := fun W => fit_any L 9223372036854775807 W hL.len
  rw [mok_fit hL] at C0
  have C := mkH C0
  clear C0
  generalize tb (MOk L) = q at *
  generalize hW1 : w.alloc (.cells (mk L) 41) = W1
  have L1 : Hid (Below w.heap.size w W1) := by subst hW1; exact bAlloc (Below.refl _ _) _
  have K1 : Hid (Blk W1 w.heap.size 41 (mk L)) := by subst hW1; exact Blk.new w 41 _
  have hl := hL.len
  go_enter Try.func70, Try.ntmps70
  go_wp2_with (first | refine wl_ld41 (B := w.heap.size) (o := 0) (.tmp 1) rfl rfl rfl hl (range_blk K1.out) ?_ | (go_at_call 85; refine (C.out W1).mono ?_; rintro e w2 ⟨rfl, hw⟩; have L2 := mkH (bT L1.out hw); clear hw))
  go_ret
  exact ⟨rfl, L2.out⟩
theorem sized_iff (G : List Nr) (now : Int) : Sized (G.map Nr.d) now ↔ G.length ≤ 4097 ∧ 0 ≤ now ∧ now < (G.length : Int) := by
  unfold Sized; rw [List.length_map]
set_option maxHeartbeats 1000000 in
theorem sized_any (ao : Option Addr) (n c : Nat) (now : Int) (w : World) : Calls Try.prog 46 #[.agg #[.slice ao n c, .int .i64 now]] w fun e w' => e = .returned (.bool (decide (n ≤ 4097 ∧ 0 ≤ now ∧ now < (n : Int)))) ∧ Below w.heap.size w w' := by
  have C0 := fun W => has_any ao n c now W
  by_cases hn : n ≤ 4097
  · have e : decide (n ≤ 4097 ∧ 0 ≤ now ∧ now < (n : Int)) = decide (0 ≤ now ∧ now < (n : Int)) := decide_eq_decide.2 ⟨fun h => h.2, fun h => ⟨hn, h⟩⟩
    rw [e]
    generalize decide (0 ≤ now ∧ now < (n : Int)) = q at *
    have C := mkH C0
    clear C0 e
    have hn' : (n : Int) ≤ 4097 := by omega
    go_enter Try.func46, Try.ntmps46
    go_wp2_with (go_at_call 44; refine (C.out _).mono ?_; rintro e w2 ⟨rfl, hw⟩; have hq := hw.symm; subst hq; clear hw)
    go_ret
    exact ⟨rfl, bAlloc (Below.refl _ _) _⟩
  · rw [decide_eq_false (fun h => hn h.1)]
    have hn' : ¬ (n : Int) ≤ 4097 := by omega
    clear C0
    go_enter Try.func46, Try.ntmps46
    go_wp2
    go_ret
    exact ⟨rfl, bAlloc (Below.refl _ _) _⟩
end Go.Proofs.Ytaahklapoppgaaa

/- slices.IndexFunc and slices.ContainsFunc at idle; sound. -/
namespace Go.Proofs.Ytaahklapoppgaaa
open Go.RowKit

set_option maxRecDepth 8000
def AllOk (D : List Ed) : Prop := ∀ d ∈ D, EdOk d
/-- where the first idle edit is -/
def IxP (D : List Ed) (w : World) (e : Ending) (w' : World) : Prop := ∃ z : Int, e = .returned (.int .i64 z) ∧ decide (0 ≤ z) = !tb (AllOk D) ∧ Below w.heap.size w w'
set_option maxHeartbeats 4000000 in
theorem index_any (eo : Option Addr) (en ec : Nat) (E : List Er) (w : World) (HE : Hid (Edz w eo E)) (hn : E.length = en) (heb : en ≤ 140737488355328) :
    Calls Try.prog 83 #[.slice eo en ec, .func (.func 69) #[] #[]] w fun e w' => IxP (E.map Er.d) w e w' := by
  have HN := mkH hn
  clear hn
  go_enter Try.func83, Try.ntmps83
  go_wp2_with fail
  go_loopg [5, 8] en (fun m x5 x8 wx => ∃ i : Nat, x8 = .int .i64 (i : Int) ∧ i + m = en ∧ Hid (AllOk ((E.map Er.d).take i)) ∧ Hid (Below w.heap.size w wx))
  case atStart => exact ⟨0, rfl, by omega, (fun d hd => by simp at hd), Below.refl _ _⟩
  case round =>
    obtain ⟨i, rfl, him, HF, KB⟩ := hrel
    obtain ⟨go, hgo⟩ : ∃ g, g = gk - 1 := ⟨_, rfl⟩
    by_cases hi : i < en
    · have hi' : (i : Int) < (en : Int) := by omega
      have hi0 : (0 : Int) ≤ (i : Int) := by omega
      obtain ⟨r, hr⟩ : ∃ r, E[i]? = some r := ⟨_, List.getElem?_eq_getElem (by have := HN.out; omega)⟩
      obtain ⟨g, o, rfl, h3⟩ := HE.out.row.ed3 hr
      have h4 := h3.keep KB.out
      have t0 := h4.e0
      have t1 := h4.e1
      have t2 := h4.e2
      have C0 := idle_any r wr ((HE.out.txs i r hr).keep KB.out)
      have HT := mkH (map_take hr)
      have HM : Hid (r.d ∈ E.map Er.d) := List.mem_map.2 ⟨r, List.mem_of_getElem? hr, rfl⟩
      obtain ⟨ra, rp1, ro, rc1, rO, rp2, rn, rc2, rN⟩ := r
      have C : Hid (Calls Try.prog 69 #[.agg #[.int .i64 ra, .slice rp1 ro rc1, .slice rp2 rn rc2]] wr fun e w' => e = .returned (.bool (!tb (EdOk ⟨ra, rO, rN⟩))) ∧ Below wr.heap.size wr w') := C0
      dsimp only at t0 t1 t2
      have hw1 : IntKind.i64.wrap ((i : Int) + 1) = ((i + 1 : Nat) : Int) := by rw [IntKind.wrap_i64]; omega
      clear hr h3 h4 C0
      by_cases hok : EdOk ⟨ra, rO, rN⟩
      · rw [tb_t hok] at C
        have HK := mkH hok
        clear hok
        go_wp2_with (go_at_call 69; refine C.out.mono ?_; rintro e w2 ⟨rfl, hw⟩; have L2 := mkH (bT KB.out hw); clear hw)
        go_roundg go
        case measure => omega
        case rel =>
          refine ⟨i + 1, by go_num, by omega, fun d hd => ?_, L2.out⟩
          rw [HT.out] at hd
          rcases List.mem_append.1 hd with h | h
          · exact HF.out d h
          · simp at h; subst h; exact HK.out
      · rw [tb_f hok] at C
        have HK := mkH hok
        clear hok
        go_wp2_with (go_at_call 69; refine C.out.mono ?_; rintro e w2 ⟨rfl, hw⟩; have L2 := mkH (bT KB.out hw); clear hw)
        go_ret
        exact ⟨_, rfl, by rw [tb_f (fun h => HK.out (h _ HM.out))]; simp, L2.out⟩
    · have hi' : ¬ (i : Int) < (en : Int) := by omega
      have HA : Hid (AllOk (E.map Er.d)) := by
        have h1 := HF.out
        rw [List.take_of_length_le (by rw [List.length_map]; have := HN.out; omega)] at h1
        exact h1
      go_wp2
      go_ret
      exact ⟨_, rfl, by rw [tb_t HA.out]; decide, KB.out⟩
set_option maxHeartbeats 1000000 in
theorem contains_any (eo : Option Addr) (en ec : Nat) (E : List Er) (w : World) (HE : Hid (Edz w eo E)) (hn : E.length = en) (heb : en ≤ 140737488355328) :
    Calls Try.prog 68 #[.slice eo en ec, .func (.func 69) #[] #[]] w fun e w' => e = .returned (.bool (!tb (AllOk (E.map Er.d)))) ∧ Below w.heap.size w w' := by
  have C := mkH (index_any eo en ec E w HE hn heb)
  clear hn
  go_enter Try.func68, Try.ntmps68
  go_wp2_with (go_at_call 83; refine C.out.mono ?_; rintro e w2 ⟨z, rfl, hz, hw⟩; have L2 := mkH hw; have HZ := mkH hz; clear hw hz)
  go_ret
  exact ⟨by rw [HZ.out]; rfl, L2.out⟩
theorem sound_dec (r : Nr) (h : r.E.length = r.en) : tb (Sound r.d) = (decide (0 ≤ r.cur ∧ r.cur ≤ 2147483647) && decide (0 < (r.en : Int)) && tb (AllOk (r.E.map Er.d)) && tb (MOk r.was) && tb (MOk r.made)) := by
  refine tb_eq ?_
  have e : decide (0 < (r.en : Int)) = true ↔ r.E.map Er.d ≠ [] := by
    rw [decide_eq_true_iff]
    cases hE : r.E with
    | nil => rw [hE] at h; simp at h; simp; omega
    | cons x l => rw [hE] at h; simp at h; simp; omega
  have e1 : ∀ p : Prop, tb p = true ↔ p := fun p => ⟨fun h => (by by_cases hp : p; exact hp; rw [tb_f hp] at h; cases h), tb_t⟩
  simp only [Bool.and_eq_true, e, e1, decide_eq_true_iff]
  unfold Sound AllOk
  show (((((0 ≤ r.cur ∧ r.cur ≤ 2147483647) ∧ _) ∧ _) ∧ _) ∧ _) ↔ ((0 ≤ r.cur ∧ r.cur ≤ 2147483647) ∧ r.E.map Er.d ≠ [] ∧ (∀ d ∈ r.E.map Er.d, EdOk d) ∧ MOk r.was ∧ MOk r.made)
  constructor
  · rintro ⟨⟨⟨⟨a, b⟩, c⟩, d⟩, e⟩; exact ⟨a, b, c, d, e⟩
  · rintro ⟨a, b, c, d, e⟩; exact ⟨⟨⟨⟨a, b⟩, c⟩, d⟩, e⟩
end Go.Proofs.Ytaahklapoppgaaa

/- The program's sound. -/
namespace Go.Proofs.Ytaahklapoppgaaa
open Go.RowKit

set_option maxRecDepth 8000
set_option maxHeartbeats 8000000 in
theorem sound_any (r : Nr) (g o : Nat) (w : World) (HZ : Hid (Nz w r)) (HC : Hid (Nc w g o r)) : Calls Try.prog 52 #[.pointer (some ⟨g, o, none⟩)] w fun e w' => e = .returned (.bool (tb (Sound r.d))) ∧ Below w.heap.size w w' := by
  rw [sound_dec r HZ.out.len]
  have CP0 := placed_any r.cur w
  have CA0 := fun W (hW : Below w.heap.size w W) => contains_any r.ea r.en r.ec r.E W (HZ.out.ez.keep hW) HZ.out.len (by have := HZ.out.big; omega)
  have CW0 := fun W => marked_any r.was W HZ.out.ww
  have CM0 := fun W => marked_any r.made W HZ.out.wm
  have hw := HZ.out.ww.len
  have hm := HZ.out.wm.len
  generalize tb (AllOk (r.E.map Er.d)) = q1 at *
  generalize tb (MOk r.was) = q2 at *
  generalize tb (MOk r.made) = q3 at *
  generalize hqp : decide (0 ≤ r.cur ∧ r.cur ≤ 2147483647) = qp at *
  have t0 := HC.out.c2
  have t3 := HC.out.c3
  obtain ⟨par, nxt, ea, en, ec, E, cur, was, made⟩ := r
  dsimp only at *
  clear hqp
  have CP := mkH CP0
  have CA := mkH CA0
  have CW := mkH CW0
  have CM := mkH CM0
  clear CP0 CA0 CW0 CM0
  have L0 : Hid (Below w.heap.size w w) := Below.refl _ _
  cases qp with
  | false =>
    go_enter Try.func52, Try.ntmps52
    go_wp2_with (go_at_call 67; refine CP.out.mono ?_; rintro e w2 ⟨rfl, hw⟩; have hq := hw.symm; subst hq; clear hw)
    go_ret
    exact ⟨rfl, L0.out⟩
  | true =>
    by_cases hen : 0 < (en : Int)
    · rw [decide_eq_true hen]
      cases q1 with
      | false =>
        go_enter Try.func52, Try.ntmps52
        go_wp2_with (first | (go_at_call 67; refine CP.out.mono ?_; rintro e w2 ⟨rfl, hw⟩; have hq := hw.symm; subst hq; clear hw) | (go_at_call 68; refine (CA.out w L0.out).mono ?_; rintro e w2 ⟨rfl, hw⟩; have L2 := mkH hw; clear hw))
        go_ret
        exact ⟨rfl, L2.out⟩
      | true =>
        cases q2 with
        | false =>
          go_enter Try.func52, Try.ntmps52
          go_wp2_with (first | (go_at_call 67; refine CP.out.mono ?_; rintro e w2 ⟨rfl, hw⟩; have hq := hw.symm; subst hq; clear hw) | (go_at_call 68; refine (CA.out w L0.out).mono ?_; rintro e w2 ⟨rfl, hw⟩; have L2 := mkH hw; have M2 := mkH (HC.out.keep hw); clear hw) | (refine wl_ld41g (B := g) (o := o + 4) (L := was) (.tmp 27) (by kernel_rfl) rfl rfl (by assumption) M2.out.m1 ?_) | (go_at_call 70; refine (CW.out _).mono ?_; rintro e w3 ⟨rfl, hw⟩; have L3 := mkH (bT L2.out hw); clear hw))
          go_ret
          exact ⟨rfl, L3.out⟩
        | true =>
          go_enter Try.func52, Try.ntmps52
          go_wp2_with (first | (go_at_call 67; refine CP.out.mono ?_; rintro e w2 ⟨rfl, hw⟩; have hq := hw.symm; subst hq; clear hw) | (go_at_call 68; refine (CA.out w L0.out).mono ?_; rintro e w2 ⟨rfl, hw⟩; have L2 := mkH hw; have M2 := mkH (HC.out.keep hw); clear hw) | (refine wl_ld41g (B := g) (o := o + 4) (L := was) (.tmp 27) (by kernel_rfl) rfl rfl (by assumption) M2.out.m1 ?_) | fail)
          refine (CW.out _).mono ?_
          rintro e w3 ⟨rfl, hw⟩
          have L3 := mkH (bT L2.out hw)
          have M3 := mkH (M2.out.keep hw)
          clear hw
          dsimp only
          go_wp2_with (first | (refine wl_ld41g (B := g) (o := o + 31) (L := made) (.tmp 34) (by kernel_rfl) rfl rfl (by assumption) M3.out.m2 ?_) | (go_at_call 70; refine (CM.out _).mono ?_; rintro e w4 ⟨rfl, hw⟩; have L4 := mkH (bT L3.out hw); clear hw))
          go_ret
          exact ⟨by simp, L4.out⟩
    · rw [decide_eq_false hen]
      go_enter Try.func52, Try.ntmps52
      go_wp2_with (go_at_call 67; refine CP.out.mono ?_; rintro e w2 ⟨rfl, hw⟩; have hq := hw.symm; subst hq; clear hw)
      go_ret
      exact ⟨rfl, L0.out⟩
end Go.Proofs.Ytaahklapoppgaaa

