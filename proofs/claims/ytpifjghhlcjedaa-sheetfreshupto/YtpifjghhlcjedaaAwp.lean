/- The chapter's first example, in lists: three pieces, and what they spell. -/
import Derived.Test.YtpifjghhlcjedaaIns
import Derived.Test.YtpifjghhlcjedaaNew
namespace Go.Proofs.Ytpifjghhlcjedaa
open Go.RowKit

def hw : List UInt8 := [104, 101, 108, 108, 111, 32, 119, 111, 114, 108, 100]

theorem hw_new {t : Tr} (h : NewR hw t) : t.list = [⟨0, 0, 11, 0⟩] := by
  rcases h with ⟨h, _⟩ | ⟨_, rfl⟩
  · cases h
  · rw [Tr.joinT_list]
    rfl

theorem hw_one {t t1 : Tr} (ht : t.list = [⟨0, 0, 11, 0⟩]) (h : PutR hw [] [44] t 5 t1) : ∃ a c : Pc, t1.list = [a, newP [] [44], c] ∧ a.l = 5 ∧ c.l = 6 := by
  obtain ⟨T, U, T', q, b, hc, hj, rfl⟩ := h
  have hb : t.byt = 11 := by rw [byt_list, ht]; rfl
  rcases hc with ⟨h0, _⟩ | ⟨_, h0, _⟩ | ⟨j, x, p, h1, h2, hp, hx0, hx1, ho, hc⟩
  · omega
  · omega
  · rw [ht] at hp ho
    have hj0 : j = 0 := by
      rcases Nat.eq_zero_or_pos j with h | h
      · exact h
      · rw [List.getElem?_eq_none (by simp; omega)] at hp; cases hp
    subst hj0
    have hp' : p = ⟨0, 0, 11, 0⟩ := by simpa using hp.symm
    have hx : x = 5 := by simp [sB] at ho; omega
    subst hx hp'
    rcases hc with ⟨h, _⟩ | ⟨_, rfl, rfl⟩
    · cases h
    · have l1 : (Tr.joinT (Tr.splitT t 0).1 (fstP hw [] ⟨0, 0, 11, 0⟩ 5) (Tr.mk none)).list = [fstP hw [] ⟨0, 0, 11, 0⟩ 5] := by rw [Tr.joinT_list, (Tr.splitT_list t 0).1]; rfl
      have l2 : (Tr.joinT (Tr.mk none) (sndP hw [] ⟨0, 0, 11, 0⟩ 5) (Tr.splitT t (0 + 1)).2).list = [sndP hw [] ⟨0, 0, 11, 0⟩ 5] := by rw [Tr.joinT_list, (Tr.splitT_list t (0 + 1)).2, ht]; rfl
      rcases hj with ⟨_, rfl, rfl, _⟩ | ⟨_, m, r, hm, hr, hjn, _, _⟩
      · exact ⟨_, _, by rw [Tr.joinT_list, l1, l2]; rfl, rfl, rfl⟩
      · exfalso
        rw [l1] at hr
        have hz := (Tr.joinT (Tr.splitT t 0).1 (fstP hw [] ⟨0, 0, 11, 0⟩ 5) (Tr.mk none)).size_list
        rw [l1] at hz
        simp at hz
        obtain rfl : m = 0 := by omega
        have hr' : r = fstP hw [] ⟨0, 0, 11, 0⟩ 5 := by simpa using hr.symm
        subst hr'
        have := (Ab.jn_parts hjn).2.2.1
        simp [fstP, newP] at this

theorem hw_two {t1 t2 : Tr} {a c : Pc} (ht : t1.list = [a, newP [] [44], c]) (ha : a.l = 5) (hc6 : c.l = 6) (h : PutR hw ([] ++ [44]) [33] t1 6 t2) : t2.size = 3 := by
  obtain ⟨T, U, T', q, b, hc, hj, rfl⟩ := h
  have hn : (newP [] [44]).l = 1 := rfl
  have hb : t1.byt = 12 := by rw [byt_list, ht]; simp [sB, ha, hc6, hn]
  rcases hc with ⟨h0, _⟩ | ⟨_, h0, _⟩ | ⟨j, x, p, h1, h2, hp, hx0, hx1, ho, hc⟩
  · omega
  · omega
  · rw [ht] at hp ho
    have hj2 : j = 2 ∧ x = 0 := by
      match j, hp, ho with
      | 0, hp, ho =>
        exfalso
        have : p = a := by simpa using hp.symm
        subst this
        simp [sB] at ho
        omega
      | 1, hp, ho =>
        exfalso
        have : p = newP [] [44] := by simpa using hp.symm
        subst this
        simp [sB, ha] at ho
        omega
      | 2, hp, ho =>
        simp [sB, ha, hn] at ho
        exact ⟨rfl, by omega⟩
      | j + 3, hp, ho => rw [List.getElem?_eq_none (by simp)] at hp; cases hp
    obtain ⟨rfl, rfl⟩ := hj2
    rcases hc with ⟨_, rfl, rfl⟩ | ⟨h, _⟩
    · have l1 : (Tr.splitT t1 2).1.list = [a, newP [] [44]] := by rw [(Tr.splitT_list t1 2).1, ht]; rfl
      have l2 : (Tr.splitT t1 2).2.list = [c] := by rw [(Tr.splitT_list t1 2).2, ht]; rfl
      have z1 := (Tr.splitT t1 2).1.size_list
      rw [l1] at z1
      simp at z1
      rcases hj with ⟨_, rfl, rfl, hno⟩ | ⟨_, m, r, hm, hr, hjn, rfl, rfl⟩
      · exfalso
        have := hno 1 (newP [] [44]) (by omega) (by rw [l1]; rfl)
        revert this
        decide
      · obtain rfl : m = 1 := by omega
        rw [← Tr.size_list, Tr.joinT_list, (Tr.splitT_list (Tr.splitT t1 2).1 1).1, l1, l2]
        rfl
    · omega

end Go.Proofs.Ytpifjghhlcjedaa
