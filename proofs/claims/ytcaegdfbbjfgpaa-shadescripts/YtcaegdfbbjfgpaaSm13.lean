/- The law's made, whatever the step. -/
import Derived.Test.YtcaegdfbbjfgpaaSm12
import Derived.Test.YtcaegdfbbjfgpaaAm20
namespace Go.Proofs.Ytcaegdfbbjfgpaa
open Go.RowKit

/-- a tree of the script: right, fit, small -/
structure Gt (T : Tr) : Prop where
  wh : T.whole
  ft : T.fits
  sz : T.size ≤ 5001
theorem Gt.gd {T : Tr} (h : Gt T) : Gd T := ⟨h.wh, h.ft, ht_small2 h.wh (by have := h.sz; omega)⟩
theorem Gt.fine {T : Tr} (h : Gt T) : T.fine := ⟨h.ft, by have := h.sz; omega⟩
theorem Gt.nil : Gt (Tr.mk none) := ⟨⟨trivial, rfl⟩, trivial, by simp [Tr.size]⟩
theorem Gt.of {T : Tr} (h : T.whole) (hf : ∀ p ∈ T.list, p.fit) (hz : T.list.length ≤ 5001) : Gt T := ⟨h, (Tr.fits_list T).2 hf, by rw [← Tr.size_list]; exact hz⟩
/-- what made gives -/
def MdG (w : World) (e : Ending) (w' : World) : Prop := ∃ (n g1 g2 : Nat) (f : Int) (Ts : List Tr), n = Ts.length ∧ n ≤ 2 ∧ e = .returned (.tuple #[.slice (some ⟨g1, 0, none⟩) n n, .slice (some ⟨g2, 0, none⟩) n n, .int .i64 f, .int .i64 f]) ∧ (∀ j T, Ts[j]? = some T → Gt T ∧ ∃ x l, w'.cell? ⟨g1, j, none⟩ = some (.pointer x) ∧ w'.cell? ⟨g2, j, none⟩ = some l ∧ At w' T x ∧ Ow w' l T) ∧ (w.heap.size ≤ g1 ∧ w.heap.size ≤ g2) ∧ Below w.heap.size w w'
theorem MdG.one {w w' : World} {e : Ending} {T : Tr} {f : Int} (hT : Gt T) (h : Md1 w T f e w') : MdG w e w' := by
  obtain ⟨g1, g2, x, l, he, h1, h2, h3, h4, h6, h5⟩ := h
  refine ⟨1, g1, g2, f, [T], rfl, by omega, he, fun j U hj => ?_, h6, h5⟩
  rcases j with _ | j
  · simp at hj; subst hj; exact ⟨hT, x, l, h1, h2, h3, h4⟩
  · simp at hj
theorem MdG.two {w w' : World} {e : Ending} {T U : Tr} {f : Int} (hT : Gt T) (hU : Gt U) (h : Md2 w T U f e w') : MdG w e w' := by
  obtain ⟨g1, g2, x, y, l, m, he, h1, h2, h6, h5⟩ := h
  refine ⟨2, g1, g2, f, [T, U], rfl, by omega, he, fun j V hj => ?_, h6, h5⟩
  rcases j with _ | _ | j
  · simp at hj; subst hj; exact ⟨hT, x, l, h1⟩
  · simp at hj; subst hj; exact ⟨hU, y, m, h2⟩
  · simp at hj
theorem rdr_nil (w : World) : Ow w (.slice none 0 0) (Tr.mk none) := ⟨0, World.ownsRow_nil _ _ _ _⟩
theorem splitT_gt {t : Tr} (h : Gt t) (k : Nat) : Gt (Tr.splitT t k).1 ∧ Gt (Tr.splitT t k).2 := by
  obtain ⟨g1, g2, z1, z2⟩ := split_gd k h.wh.1 h.ft (by have := h.sz; omega)
  exact ⟨⟨g1.wh, g1.ft, by have := h.sz; omega⟩, ⟨g2.wh, g2.ft, by have := h.sz; omega⟩⟩
theorem joinT_gt {l r : Tr} {p : Pc} (hl : Gt l) (hr : Gt r) (hp : p.fit) (hz : l.size + r.size ≤ 5000) : Gt (Tr.joinT l p r) := by
  refine Gt.of (Tr.joinT_whole p hl.wh hr.wh) ?_ ?_
  · rw [Tr.joinT_list]
    intro q hq
    rcases List.mem_append.1 hq with h | h
    · exact (Tr.fits_list l).1 hl.ft q h
    · rcases List.mem_cons.1 h with h | h
      · subst h; exact hp
      · exact (Tr.fits_list r).1 hr.ft q h
  · rw [Tr.joinT_list, List.length_append, List.length_cons, Tr.size_list, Tr.size_list]; omega
theorem gluT_gt {l r : Tr} (hl : Gt l) (hr : Gt r) (hz : l.size + r.size ≤ 5001) : Gt (Tr.gluT l r) := by
  refine Gt.of (Tr.gluT_whole hl.wh hr.wh) ?_ ?_
  · rw [Tr.gluT_list]
    intro q hq
    rcases List.mem_append.1 hq with h | h
    · exact (Tr.fits_list l).1 hl.ft q h
    · exact (Tr.fits_list r).1 hr.ft q h
  · rw [Tr.gluT_list, List.length_append, Tr.size_list, Tr.size_list]; omega

theorem made_any (kd sa sb sat ps po pl pn : Int) (lo : Value) (a b : Option Addr) (xv yv : Value) (ta tb : Tr) (L : List Pc) (w : World) (hkd : -9223372036854775808 ≤ kd ∧ kd ≤ 9223372036854775807) (ga : Gt ta) (gb : Gt tb) (hz : ta.size + tb.size + L.length ≤ 5000) (hL : Rdb w lo L) (hA : At w ta a) (hB : At w tb b) (hX : Rdr w xv (rowsT ta)) (hY : Rdr w yv (rowsT tb)) :
    Calls Try.prog 11 #[.agg #[.int .i64 kd, .int .i64 sa, .int .i64 sb, .int .i64 sat, .int .i64 ps, .int .i64 po, .int .i64 pl, .int .i64 pn, lo], .agg #[.pointer a], .agg #[.pointer b], xv, yv] w fun e w' => MdG w e w' := by
  have h6 := pk_lt kd (n := 6) (by omega)
  have hcs : pk kd 6 = 0 ∨ pk kd 6 = 1 ∨ pk kd 6 = 2 ∨ pk kd 6 = 3 ∨ pk kd 6 = 4 ∨ pk kd 6 = 5 := by omega
  have hga := ga.gd
  have hgb := gb.gd
  rcases hcs with h | h | h | h | h | h
  · obtain ⟨F0, F1⟩ := buildT_fine (L := L) (by omega)
    have gT : Gt (Tr.buildT (good L)) := ⟨F1, F0.1, by rw [← Tr.size_list, (Tr.buildT_ok _ (good L) (Nat.le_refl _)).2]; have := good_le L; omega⟩
    refine (made_build kd sa sb sat ps po pl pn lo a b xv yv (Tr.buildT (good L)) w hkd h (fun W hW => Build_any lo L W (by omega) (hL.keep hW)) (fun W hW => ?_)).mono fun e w' hm => MdG.one gT hm
    refine (Buildr_any lo L W (by omega) (hL.keep hW)).mono ?_
    rintro e w' ⟨l, rfl, ho, hb⟩
    exact ⟨l, rfl, ⟨_, ho⟩, hb⟩
  · have gT : Gt (jnT ta ⟨ps, po, pl, pn⟩ tb) := by
      unfold jnT
      cases hf : fitB pl pn with
      | true => simp only [if_true]; exact joinT_gt ga gb ((fitB_iff ps po pl pn).1 hf) (by omega)
      | false => simp only [Bool.false_eq_true, if_false]; exact gluT_gt ga gb (by omega)
    refine (made_join kd sa sb sat ps po pl pn lo a b xv yv (jnT ta ⟨ps, po, pl, pn⟩ tb) w hkd h (fun W hW => ?_) (fun W hW => ?_)).mono fun e w' hm => MdG.one gT hm
    · unfold jnT
      cases hf : fitB pl pn with
      | true =>
        simp only [if_true]
        refine Join_fit ta tb a b ps po pl pn W hf ?_ ga.wh gb.wh (hA.keep hW) (hB.keep hW)
        refine ⟨?_, ?_⟩
        · intro q hq
          rcases List.mem_append.1 hq with h | h
          · exact (Tr.fits_list ta).1 ga.ft q h
          · rcases List.mem_cons.1 h with h | h
            · subst h; exact (fitB_iff ps po pl pn).1 hf
            · exact (Tr.fits_list tb).1 gb.ft q h
        · rw [List.length_append, List.length_cons, Tr.size_list, Tr.size_list]; omega
      | false =>
        simp only [Bool.false_eq_true, if_false]
        refine Join_glue ta tb a b ps po pl pn W hf ?_ ga.wh gb.wh (hA.keep hW) (hB.keep hW)
        refine ⟨?_, ?_⟩
        · intro q hq
          rcases List.mem_append.1 hq with h | h
          · exact (Tr.fits_list ta).1 ga.ft q h
          · exact (Tr.fits_list tb).1 gb.ft q h
        · rw [List.length_append, Tr.size_list, Tr.size_list]; omega
    · refine (Joinr_any ta tb xv yv ps po pl pn W hga hgb (by omega) (hX.keep hW) (hY.keep hW)).mono ?_
      rintro e w' ⟨l, rfl, ho, hb⟩
      exact ⟨l, rfl, ⟨_, ho⟩, hb⟩
  · by_cases hk : 0 ≤ sat ∧ sat ≤ (ta.size : Int)
    · obtain ⟨k, rfl⟩ := Int.eq_ofNat_of_zero_le hk.1
      have hkn : k ≤ ta.size := by omega
      obtain ⟨g1, g2⟩ := splitT_gt ga k
      refine (made_split kd sa sb k ps po pl pn lo a b xv yv (Tr.splitT ta k).1 (Tr.splitT ta k).2 0 w hkd h (fun W hW => Split_yes ta a k W hkn ga.fine ga.wh (hA.keep hW)) (fun W hW => ?_)).mono fun e w' hm => MdG.two g1 g2 hm
      refine (Splitr_yes ta xv k W hga (by omega) (hX.keep hW) hkn).mono ?_
      rintro e w' ⟨l1, l2, rfl, o1, o2, hb⟩
      exact ⟨l1, l2, rfl, ⟨_, o1⟩, ⟨_, o2⟩, hb⟩
    · refine (made_split kd sa sb sat ps po pl pn lo a b xv yv (Tr.mk none) (Tr.mk none) 20 w hkd h (fun W hW => ?_) (fun W hW => ?_)).mono fun e w' hm => MdG.two Gt.nil Gt.nil hm
      · refine (Split_no ta a sat W (decide_eq_false hk) (hA.keep hW)).mono ?_
        rintro e w' ⟨rfl, hb⟩
        exact ⟨none, none, rfl, rfl, rfl, hb⟩
      · refine (Splitr_no ta xv sat W (hX.keep hW) (by omega)).mono ?_
        rintro e w' ⟨rfl, rfl⟩
        exact ⟨_, _, rfl, rdr_nil _, rdr_nil _, Below.refl _ _⟩
  · by_cases hk : 0 ≤ sat ∧ sat ≤ (ta.size : Int)
    · cases hf : fitB pl pn with
      | true =>
        obtain ⟨k, rfl⟩ := Int.eq_ofNat_of_zero_le hk.1
        have hkn : k ≤ ta.size := by omega
        obtain ⟨g1, g2⟩ := splitT_gt ga k
        obtain ⟨-, -, z1, z2⟩ := split_gd k ga.wh.1 ga.ft (by have := ga.sz; omega)
        refine (made_ins kd sa sb k ps po pl pn lo a b xv yv (Tr.joinT (Tr.splitT ta k).1 ⟨ps, po, pl, pn⟩ (Tr.splitT ta k).2) 0 w hkd h (fun W hW => Insert_yes ta a k ps po pl pn W hkn hf ga.fine (by unfold Hid; omega) ga.wh (hA.keep hW)) (fun W hW => ?_)).mono fun e w' hm => MdG.one (joinT_gt g1 g2 ((fitB_iff ps po pl pn).1 hf) (by omega)) hm
        refine (Insertr_yes ta xv ps po pl pn k W hga (by omega) (hX.keep hW) hkn hf).mono ?_
        rintro e w' ⟨l1, rfl, o1, hb⟩
        exact ⟨l1, rfl, ⟨_, o1⟩, hb⟩
      | false =>
        refine (made_ins kd sa sb sat ps po pl pn lo a b xv yv (Tr.mk none) 2 w hkd h (fun W hW => ?_) (fun W hW => ?_)).mono fun e w' hm => MdG.one Gt.nil hm
        · refine (Insert_arg ta a sat ps po pl pn W (decide_eq_true hk) hf (hA.keep hW)).mono ?_
          rintro e w' ⟨rfl, hb⟩
          exact ⟨none, rfl, rfl, hb⟩
        · refine (Insertr_arg ta xv ps po pl pn sat W (hX.keep hW) (by omega) (by omega) hf).mono ?_
          rintro e w' ⟨rfl, hb⟩
          exact ⟨_, rfl, rdr_nil _, hb⟩
    · refine (made_ins kd sa sb sat ps po pl pn lo a b xv yv (Tr.mk none) 20 w hkd h (fun W hW => ?_) (fun W hW => ?_)).mono fun e w' hm => MdG.one Gt.nil hm
      · refine (Insert_place ta a sat ps po pl pn W (decide_eq_false hk) (hA.keep hW)).mono ?_
        rintro e w' ⟨rfl, hb⟩
        exact ⟨none, rfl, rfl, hb⟩
      · refine (Insertr_place ta xv ps po pl pn sat W (hX.keep hW) (by omega)).mono ?_
        rintro e w' ⟨rfl, hb⟩
        exact ⟨_, rfl, rdr_nil _, hb⟩
  · by_cases hk : 0 ≤ sat ∧ sat < (ta.size : Int)
    · obtain ⟨k, rfl⟩ := Int.eq_ofNat_of_zero_le hk.1
      have hkn : k < ta.size := by omega
      obtain ⟨g1, -⟩ := splitT_gt ga k
      obtain ⟨-, g2⟩ := splitT_gt ga (k + 1)
      obtain ⟨-, -, z1, -⟩ := split_gd k ga.wh.1 ga.ft (by have := ga.sz; omega)
      obtain ⟨-, -, -, z2⟩ := split_gd (k + 1) ga.wh.1 ga.ft (by have := ga.sz; omega)
      refine (made_del kd sa sb k ps po pl pn lo a b xv yv (Tr.gluT (Tr.splitT ta k).1 (Tr.splitT ta (k + 1)).2) 0 w hkd h (fun W hW => Delete_yes ta a k W hkn ga.fine ga.wh (hA.keep hW)) (fun W hW => ?_)).mono fun e w' hm => MdG.one (gluT_gt g1 g2 (by omega)) hm
      refine (Deleter_yes ta xv k W hga (by omega) (hX.keep hW) hkn).mono ?_
      rintro e w' ⟨l1, rfl, o1, hb⟩
      exact ⟨l1, rfl, ⟨_, o1⟩, hb⟩
    · refine (made_del kd sa sb sat ps po pl pn lo a b xv yv (Tr.mk none) 20 w hkd h (fun W hW => ?_) (fun W hW => ?_)).mono fun e w' hm => MdG.one Gt.nil hm
      · refine (Delete_no ta a sat W (decide_eq_false hk) (hA.keep hW)).mono ?_
        rintro e w' ⟨rfl, hb⟩
        exact ⟨none, rfl, rfl, hb⟩
      · refine (Deleter_no ta xv sat W (hX.keep hW) (by omega)).mono ?_
        rintro e w' ⟨rfl, rfl⟩
        exact ⟨_, rfl, rdr_nil _, Below.refl _ _⟩
  · by_cases hk : 0 ≤ sat ∧ sat < (ta.size : Int)
    · cases hf : fitB pl pn with
      | true =>
        obtain ⟨k, rfl⟩ := Int.eq_ofNat_of_zero_le hk.1
        have hkn : k < ta.size := by omega
        have gT : Gt (ta.setT k ⟨ps, po, pl, pn⟩) := ⟨setT_whole ga.wh k _, setT_fits ga.ft (by have := ga.sz; omega) k ((fitB_iff ps po pl pn).1 hf), by rw [(setT_size ta k _).1]; exact ga.sz⟩
        refine (made_set kd sa sb k ps po pl pn lo a b xv yv (ta.setT k ⟨ps, po, pl, pn⟩) 0 w hkd h (fun W hW => Set_yes ta a k ps po pl pn W hkn hf ga.fine (hA.keep hW)) (fun W hW => ?_)).mono fun e w' hm => MdG.one gT hm
        refine (Setr_yes ta xv ps po pl pn k W hga (by omega) (hX.keep hW) hkn hf).mono ?_
        rintro e w' ⟨l1, rfl, o1, hb⟩
        exact ⟨l1, rfl, ⟨_, o1⟩, hb⟩
      | false =>
        refine (made_set kd sa sb sat ps po pl pn lo a b xv yv (Tr.mk none) 2 w hkd h (fun W hW => ?_) (fun W hW => ?_)).mono fun e w' hm => MdG.one Gt.nil hm
        · refine (Set_arg ta a sat ps po pl pn W (decide_eq_true hk) hf (hA.keep hW)).mono ?_
          rintro e w' ⟨rfl, hb⟩
          exact ⟨none, rfl, rfl, hb⟩
        · refine (Setr_arg ta xv ps po pl pn sat W (hX.keep hW) (by omega) (by omega) hf).mono ?_
          rintro e w' ⟨rfl, hb⟩
          exact ⟨_, rfl, rdr_nil _, hb⟩
    · refine (made_set kd sa sb sat ps po pl pn lo a b xv yv (Tr.mk none) 20 w hkd h (fun W hW => ?_) (fun W hW => ?_)).mono fun e w' hm => MdG.one Gt.nil hm
      · refine (Set_place ta a sat ps po pl pn W (decide_eq_false hk) (hA.keep hW)).mono ?_
        rintro e w' ⟨rfl, hb⟩
        exact ⟨none, rfl, rfl, hb⟩
      · refine (Setr_place ta xv ps po pl pn sat W (hX.keep hW) (by omega)).mono ?_
        rintro e w' ⟨rfl, hb⟩
        exact ⟨_, rfl, rdr_nil _, hb⟩
end Go.Proofs.Ytcaegdfbbjfgpaa
