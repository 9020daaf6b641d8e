/- What the answers spell, byte by byte; what is put in comes out again. -/
import Derived.Test.YtjjgloioppjcaaaRefIns
namespace Go.Proofs.Ytjjgloioppjcaaa
open Go.RowKit

theorem size_eq {L : List Sp} (hz : L.length ≤ 1073741824) (h : okL L = true) : sizeW L = ((byt L).length : Nat) ∧ (byt L).length ≤ 2305843008139952128 := by
  have h1 := sumL_bounds h
  have h2 := byt_length h
  refine ⟨?_, by omega⟩
  rw [sizeW, if_pos h, wrap_in (by omega) (by omega), h2]
theorem spell_bet {L : List Sp} {a b : Int} (hz : L.length ≤ 1073741824) (h : okL L = true) (ha : 0 ≤ a ∧ a ≤ ((byt L).length : Nat)) (hb : 0 ≤ b ∧ b ≤ ((byt L).length : Nat)) : byt (packL (betW a b L)) = ((byt L).take b.toNat).drop a.toNat := by
  have h1 := (size_eq hz h).2
  have h2 := byt_length h
  rw [byt_packL (betW_ok h), betW_eq ⟨ha.1, by omega⟩ ⟨hb.1, by omega⟩ h (by omega), byt_betL _ _ h]
  simp
theorem rfs_range {L : List Sp} {a b : Int} (hz : L.length ≤ 1073741824) (h0 : rfs L a b = 0) : okL L = true ∧ 0 ≤ a ∧ a ≤ b ∧ b ≤ ((byt L).length : Nat) := by
  obtain ⟨h1, h2, h3, h4⟩ := rfs_zero h0
  rw [(size_eq hz h1).1] at h4
  exact ⟨h1, h2, h3, h4⟩
theorem rfs_fits {L : List Sp} {a b : Int} (hz : L.length ≤ 1073741824) (h : okL L = true) (ha : 0 ≤ a) (hab : a ≤ b) (hb : b ≤ ((byt L).length : Nat)) : rfs L a b = 0 := by
  rw [rfs, if_pos h, (size_eq hz h).1, if_neg (by omega)]

theorem spell_slc {L : List Sp} {a b : Int} (hz : L.length ≤ 1073741824) (h0 : rfs L a b = 0) : byt (slcL L a b) = ((byt L).take b.toNat).drop a.toNat := by
  obtain ⟨h1, h2, h3, h4⟩ := rfs_range hz h0
  rw [slcL, if_pos h0, spell_bet hz h1 ⟨h2, by omega⟩ ⟨by omega, h4⟩]
theorem spell_cut1 {L : List Sp} {a : Int} (hz : L.length ≤ 1073741824) (h0 : rfs L a a = 0) : byt (cut1 L a) = (byt L).take a.toNat := by
  obtain ⟨h1, h2, h3, h4⟩ := rfs_range hz h0
  rw [cut1, if_pos h0, spell_bet hz h1 ⟨by omega, by omega⟩ ⟨h2, h4⟩]
  simp
theorem spell_cut2 {L : List Sp} {a : Int} (hz : L.length ≤ 1073741824) (h0 : rfs L a a = 0) : byt (cut2 L a) = (byt L).drop a.toNat := by
  obtain ⟨h1, h2, h3, h4⟩ := rfs_range hz h0
  rw [cut2, if_pos h0, (size_eq hz h1).1, spell_bet hz h1 ⟨h2, h4⟩ ⟨by omega, by omega⟩, Int.toNat_natCast, List.take_length]
theorem spell_del {L : List Sp} {a b : Int} (hz : L.length ≤ 1073741824) (h0 : rfs L a b = 0) : byt (delL L a b) = (byt L).take a.toNat ++ (byt L).drop b.toNat := by
  obtain ⟨h1, h2, h3, h4⟩ := rfs_range hz h0
  have e1 := spell_bet hz h1 (a := 0) (b := a) ⟨by omega, by omega⟩ ⟨h2, by omega⟩
  have e2 := spell_bet hz h1 (a := b) (b := ((byt L).length : Nat)) ⟨by omega, h4⟩ ⟨by omega, by omega⟩
  rw [byt_packL (betW_ok h1)] at e1 e2
  rw [delL, if_pos h0, byt_packL (by rw [okL_append, betW_ok h1, betW_ok h1]; rfl), byt_append, (size_eq hz h1).1, e1, e2, Int.toNat_natCast, List.take_length]
  simp
theorem ins_zero {L : List Sp} {a : Int} {p : Sp} (h : insE L a p = 0) : rgt p = true ∧ rfs L a a = 0 := by
  unfold insE at h
  split at h
  · rename_i h1; exact ⟨h1, h⟩
  · omega
theorem spell_ins {L : List Sp} {a : Int} {p : Sp} (hz : L.length ≤ 1073741824) (h0 : insE L a p = 0) : byt (insL L a p) = (byt L).take a.toNat ++ (byt1 p ++ (byt L).drop a.toNat) := by
  obtain ⟨hp, h0'⟩ := ins_zero h0
  obtain ⟨h1, h2, h3, h4⟩ := rfs_range hz h0'
  have e1 := spell_bet hz h1 (a := 0) (b := a) ⟨by omega, by omega⟩ ⟨h2, by omega⟩
  have e2 := spell_bet hz h1 (a := a) (b := ((byt L).length : Nat)) ⟨by omega, h4⟩ ⟨by omega, by omega⟩
  rw [byt_packL (betW_ok h1)] at e1 e2
  have e3 : okL (p :: betW a (sizeW L) L) = (rgt p && okL (betW a (sizeW L) L)) := by simp [okL]
  rw [insL, if_pos h0, byt_packL (by rw [okL_append, betW_ok h1, e3, betW_ok h1, hp]; rfl), byt_append, byt_cons, (size_eq hz h1).1, e1, e2, Int.toNat_natCast, List.take_length]
  simp

theorem slc_ok (L : List Sp) (a b : Int) : okL (slcL L a b) = true ∧ pk (slcL L a b) := by
  unfold slcL; split
  · rename_i h; have h1 := (rfs_zero h).1; exact ⟨packL_ok (betW_ok h1), pk_packL (betW_ok h1)⟩
  · exact ⟨rfl, trivial⟩
theorem cut1_ok (L : List Sp) (a : Int) : okL (cut1 L a) = true ∧ pk (cut1 L a) := by
  unfold cut1; split
  · rename_i h; have h1 := (rfs_zero h).1; exact ⟨packL_ok (betW_ok h1), pk_packL (betW_ok h1)⟩
  · exact ⟨rfl, trivial⟩
theorem cut2_ok (L : List Sp) (a : Int) : okL (cut2 L a) = true ∧ pk (cut2 L a) := by
  unfold cut2; split
  · rename_i h; have h1 := (rfs_zero h).1; exact ⟨packL_ok (betW_ok h1), pk_packL (betW_ok h1)⟩
  · exact ⟨rfl, trivial⟩
theorem del_ok (L : List Sp) (a b : Int) : okL (delL L a b) = true ∧ pk (delL L a b) := by
  unfold delL; split
  · rename_i h; have h1 := (rfs_zero h).1
    have h2 : okL (betW 0 a L ++ betW b (sizeW L) L) = true := by rw [okL_append, betW_ok h1, betW_ok h1]; rfl
    exact ⟨packL_ok h2, pk_packL h2⟩
  · exact ⟨rfl, trivial⟩
theorem ins_ok (L : List Sp) (a : Int) (p : Sp) : okL (insL L a p) = true ∧ pk (insL L a p) := by
  unfold insL; split
  · rename_i h
    obtain ⟨hp, h0'⟩ := ins_zero h
    have h1 := (rfs_zero h0').1
    have e3 : okL (p :: betW a (sizeW L) L) = (rgt p && okL (betW a (sizeW L) L)) := by simp [okL]
    have h2 : okL (betW 0 a L ++ p :: betW a (sizeW L) L) = true := by rw [okL_append, betW_ok h1, e3, betW_ok h1, hp]; rfl
    exact ⟨packL_ok h2, pk_packL h2⟩
  · exact ⟨rfl, trivial⟩
theorem pack_ok (L : List Sp) : okL (packA L) = true ∧ pk (packA L) := by
  unfold packA; split
  · rename_i h; exact ⟨packL_ok h, pk_packL h⟩
  · exact ⟨rfl, trivial⟩

/-- What is put in stands there, and taken out again leaves the list, packed. -/
theorem ins_back {L : List Sp} {a : Int} {p : Sp} (hz : L.length ≤ 1048576) (h0 : insE L a p = 0) :
    0 ≤ a ∧ a ≤ 2305843008139952128 ∧ 0 ≤ p.l ∧ p.l ≤ 2147483647 ∧ rfs (insL L a p) a (a + p.l) = 0 ∧ slcL (insL L a p) a (a + p.l) = packA [p] ∧ delL (insL L a p) a (a + p.l) = packA L ∧ sizeW (insL L a p) = sizeW L + p.l ∧ 0 ≤ sizeW L ∧ sizeW L ≤ 2305843008139952128 := by
  obtain ⟨hp, h0'⟩ := ins_zero h0
  obtain ⟨h1, h2, h3, h4⟩ := rfs_range (by omega) h0'
  have hpp := (rgt_iff p).1 hp
  have hl := insL_length L a p
  have hs := spell_ins (by omega) h0
  have ok := ins_ok L a p
  have ht : ((byt L).take a.toNat).length = a.toNat := by rw [List.length_take]; omega
  have hn : (byt (insL L a p)).length = (byt L).length + p.l.toNat := by
    rw [hs]; simp only [List.length_append, ht, byt1_length, List.length_drop]; omega
  have hb : (byt L).length ≤ 2305843008139952128 := (size_eq (by omega) h1).2
  have hr : rfs (insL L a p) a (a + p.l) = 0 := rfs_fits (by omega) ok.1 h2 (by omega) (by rw [hn]; omega)
  have hta : (a + p.l).toNat = a.toNat + p.l.toNat := by omega
  have hd : ((byt L).take a.toNat ++ (byt1 p ++ (byt L).drop a.toNat)).drop (a.toNat + p.l.toNat) = (byt L).drop a.toNat := by
    rw [List.drop_append, ht, List.drop_append, byt1_length]
    have e1 : ((byt L).take a.toNat).drop (a.toNat + p.l.toNat) = [] := List.drop_eq_nil_of_le (by rw [ht]; omega)
    have e2 : (byt1 p).drop (a.toNat + p.l.toNat - a.toNat) = [] := List.drop_eq_nil_of_le (by rw [byt1_length]; omega)
    rw [e1, e2]
    have e3 : a.toNat + p.l.toNat - a.toNat - p.l.toNat = 0 := by omega
    rw [e3]; simp
  refine ⟨h2, by omega, hpp.2.2.1, by omega, hr, ?_, ?_, ?_, ?_, ?_⟩
  · refine pk_eq _ _ (slc_ok _ _ _).2 (pack_ok [p]).2 ?_
    rw [spell_slc (by omega) hr, hs, hta]
    have e0 : okL [p] = true := by simp [okL, hp]
    rw [packA, if_pos e0, byt_packL e0, byt_one]
    rw [List.take_append, ht, List.drop_append]
    have e1 : (((byt L).take a.toNat).take (a.toNat + p.l.toNat)).drop a.toNat = [] := List.drop_eq_nil_of_le (by rw [List.length_take, ht]; omega)
    have e2 : a.toNat + p.l.toNat - a.toNat = p.l.toNat := by omega
    have e3 : (((byt L).take a.toNat).take (a.toNat + p.l.toNat)).length = a.toNat := by rw [List.length_take, ht]; omega
    rw [e1, e2, e3, List.take_append, byt1_length]
    simp [List.take_of_length_le, byt1_length]
  · refine pk_eq _ _ (del_ok _ _ _).2 (pack_ok L).2 ?_
    rw [spell_del (by omega) hr, hs, hta, hd]
    rw [packA, if_pos h1, byt_packL h1]
    rw [List.take_append, ht, Nat.sub_self, List.take_zero, List.append_nil, List.take_of_length_le (by rw [ht]; omega), List.take_append_drop]
  · rw [(size_eq (by omega) ok.1).1, (size_eq (by omega) h1).1, hn]; omega
  · rw [(size_eq (by omega) h1).1]; omega
  · rw [(size_eq (by omega) h1).1]; omega
end Go.Proofs.Ytjjgloioppjcaaa
