/- Cutting by bytes in whole numbers: what wraps nowhere. -/
import Derived.Test.YtjjgloioppjcaaaKit
namespace Go.Proofs.Ytjjgloioppjcaaa

theorem wrap_in {n : Int} (h1 : -9223372036854775808 ≤ n) (h2 : n ≤ 9223372036854775807) : IntKind.i64.wrap n = n := by
  rw [IntKind.wrap_i64]; omega
theorem one_eq {a b at' : Int} {p : Sp} (ha : 0 ≤ a ∧ a ≤ 4611686018427387904) (hb : 0 ≤ b ∧ b ≤ 4611686018427387904) (ht : 0 ≤ at' ∧ at' ≤ 4611686018427387904) : one a b at' p = one0 a b at' p := by
  unfold one one0 one.a' one.b'
  rw [wrap_in (by omega) (by omega), wrap_in (by omega) (by omega)]
theorem foldl_bet {a b : Int} (ha : 0 ≤ a ∧ a ≤ 4611686018427387904) (hb : 0 ≤ b ∧ b ≤ 4611686018427387904) : ∀ (L : List Sp) (A : List Sp) (at' : Int), okL L = true → 0 ≤ at' → at' + sumL L ≤ 4611686018427387904 → L.foldl (stp a b) (A, at') = (A ++ betL a b at' L, at' + sumL L)
  | [], A, at', _, _, _ => by simp [betL, sumL]
  | p :: L, A, at', h, h0, h1 => by
    have h3 : rgt p = true ∧ okL L = true := by simpa [okL] using h
    have hp := (rgt_iff p).1 h3.1
    have hs := sumL_bounds h3.2
    simp only [sumL] at h1
    rw [List.foldl_cons]
    have e : stp a b (A, at') p = (A ++ one0 a b at' p, at' + p.l) := by
      unfold stp
      rw [one_eq ha hb (by omega), wrap_in (by dsimp only; omega) (by dsimp only; omega)]
    rw [e, foldl_bet ha hb L _ _ h3.2 (by omega) (by omega)]
    simp only [betL, sumL, List.append_assoc]
    rw [Int.add_assoc]
theorem betW_eq {a b : Int} {L : List Sp} (ha : 0 ≤ a ∧ a ≤ 4611686018427387904) (hb : 0 ≤ b ∧ b ≤ 4611686018427387904) (h : okL L = true) (hs : sumL L ≤ 4611686018427387904) : betW a b L = betL a b 0 L := by
  unfold betW
  rw [foldl_bet ha hb L [] 0 h (by omega) (by omega)]
  simp

theorem one_ok {a b at' : Int} {p : Sp} (hp : rgt p = true) : okL (one a b at' p) = true := by
  have h := (rgt_iff p).1 hp
  unfold one
  split
  · have : rgt ⟨p.s, p.o + max (one.a' a at') 0, min (one.b' b at') p.l - max (one.a' a at') 0⟩ = true := (rgt_iff _).2 ⟨h.1, by dsimp only; omega, by dsimp only; omega, by dsimp only; omega⟩
    simp [okL, this]
  · rfl
theorem foldl_bet_ok {a b : Int} : ∀ (L : List Sp) (st : List Sp × Int), okL st.1 = true → okL L = true → okL (L.foldl (stp a b) st).1 = true
  | [], _, h, _ => h
  | p :: L, st, h, h2 => by
    have h3 : rgt p = true ∧ okL L = true := by simpa [okL] using h2
    exact foldl_bet_ok L _ (by unfold stp; dsimp only; rw [okL_append, h, one_ok h3.1]; rfl) h3.2
theorem betW_ok {a b : Int} {L : List Sp} (h : okL L = true) : okL (betW a b L) = true := foldl_bet_ok L _ rfl h
theorem one_length (a b at' : Int) (p : Sp) : (one a b at' p).length ≤ 1 := by unfold one; split <;> simp
theorem foldl_bet_length {a b : Int} : ∀ (L : List Sp) (st : List Sp × Int), (L.foldl (stp a b) st).1.length ≤ st.1.length + L.length
  | [], st => by simp
  | p :: L, st => by
    have h1 := foldl_bet_length (a := a) (b := b) L (stp a b st p)
    have h2 := one_length a b st.2 p
    have h3 : (stp a b st p).1.length = st.1.length + (one a b st.2 p).length := by simp [stp]
    simp only [List.foldl_cons, List.length_cons]
    omega
theorem betW_length (a b : Int) (L : List Sp) : (betW a b L).length ≤ L.length := by have := foldl_bet_length (a := a) (b := b) L ([], 0); simpa [betW] using this
theorem stp_take {a b : Int} {L : List Sp} {j : Nat} {p : Sp} {st : List Sp × Int} (h : L[j]? = some p) : (L.take (j + 1)).foldl (stp a b) st = stp a b ((L.take j).foldl (stp a b) st) p := by
  obtain ⟨h1, h2⟩ := List.getElem?_eq_some_iff.1 h
  rw [List.take_succ_eq_append_getElem h1, List.foldl_append, h2]; rfl

/-- one span, byte by byte -/
theorem byt_one0 {a b at' : Int} {p : Sp} (hp : 0 ≤ p.l) : byt (one0 a b at' p) = ((byt1 p).take (b - at').toNat).drop (a - at').toNat := by
  apply List.ext_getElem?
  intro k
  rw [List.getElem?_drop, List.getElem?_take, byt1_at]
  unfold one0
  split
  · rename_i h
    rw [byt_one, byt1_at]
    dsimp only
    by_cases h1 : k < (min (b - at') p.l - max (a - at') 0).toNat
    · rw [if_pos h1, if_pos (by omega), if_pos (by omega)]
      congr 2
      omega
    · rw [if_neg h1]
      by_cases h2 : (a - at').toNat + k < (b - at').toNat
      · rw [if_pos h2, if_neg (by omega)]
      · rw [if_neg h2]
  · rename_i h
    have e : (byt ([] : List Sp))[k]? = none := by simp [byt]
    rw [e]
    by_cases h2 : (a - at').toNat + k < (b - at').toNat
    · rw [if_pos h2, if_neg (by omega)]
    · rw [if_neg h2]
theorem byt_betL {a b : Int} : ∀ (L : List Sp) (at' : Int), okL L = true → byt (betL a b at' L) = ((byt L).take (b - at').toNat).drop (a - at').toNat
  | [], at', _ => by simp [betL, byt]
  | p :: L, at', h => by
    have h3 : rgt p = true ∧ okL L = true := by simpa [okL] using h
    have hp := ((rgt_iff p).1 h3.1).2.2.1
    rw [betL, byt_append, byt_one0 hp, byt_betL L _ h3.2, byt_cons, List.take_append, List.drop_append, byt1_length]
    congr 1
    rw [List.length_take, byt1_length]
    by_cases h1 : (b - at').toNat ≤ p.l.toNat
    · have e1 : (b - (at' + p.l)).toNat = 0 := by omega
      have e2 : (b - at').toNat - p.l.toNat = 0 := by omega
      rw [e1, e2]; simp
    · have e1 : (b - (at' + p.l)).toNat = (b - at').toNat - p.l.toNat := by omega
      have e2 : (a - (at' + p.l)).toNat = (a - at').toNat - min (b - at').toNat p.l.toNat := by omega
      rw [e1, e2]
end Go.Proofs.Ytjjgloioppjcaaa
