/- The program's leads. -/
import Derived.Test.YtaahklapoppgaaaQm14
namespace Go.Proofs.Ytaahklapoppgaaa
open Go.RowKit

set_option maxRecDepth 8000
def LdI (D : List Nd) (i : Nat) : Prop := ∀ (k : Nat) (n : Nd), k < i → D[k]? = some n → Lead D k n
theorem LdI.step {D : List Nd} {i : Nat} {n : Nd} (h : LdI D i) (hi : D[i]? = some n) (h1 : Lead D i n) : LdI D (i + 1) := fun k m hk hm => by
  by_cases e : k = i
  · subst e; rw [hi] at hm; cases hm; exact h1
  · exact h k m (by omega) hm
theorem LdI.all {D : List Nd} {i : Nat} (h : LdI D i) (hi : D.length ≤ i) : Leads D := fun k n hk => h k n (by have := (List.getElem?_eq_some_iff.1 hk).1; omega) hk
set_option maxHeartbeats 8000000 in
theorem leads_any (ao : Option Addr) (n c : Nat) (G : List Nr) (w : World) (HG : Hid (Grz w ao G)) (hn : G.length = n) (h0 : 0 < n) (hb : n ≤ 4097) : Calls Try.prog 49 #[.slice ao n c] w fun e w' => e = .returned (.bool (tb (Leads (G.map Nr.d)))) ∧ Below w.heap.size w w' := by
  have HN := mkH hn
  obtain ⟨g, o, rfl, hat0⟩ := HG.out.base (by omega)
  have HA := mkH hat0
  clear hn hat0
  go_enter Try.func49, Try.ntmps49
  go_wp2_with fail
  go_loopg [3, 4, 7] n (fun m x3 x4 x7 wx => ∃ i : Nat, x7 = .int .i64 (i : Int) ∧ i + m = n ∧ Hid (LdI (G.map Nr.d) i) ∧ wx = w)
  case atStart => exact ⟨0, rfl, by omega, (fun k m h1 _ => by omega), rfl⟩
  case round =>
    obtain ⟨i, rfl, him, HF, hww⟩ := hrel
    subst hww
    obtain ⟨go, hgo⟩ : ∃ g, g = gk - 1 := ⟨_, rfl⟩
    by_cases hi : i < n
    · have hi' : (i : Int) < (n : Int) := by omega
      have hi0 : (0 : Int) ≤ (i : Int) := by omega
      obtain ⟨r, hr⟩ : ∃ r, G[i]? = some r := ⟨_, List.getElem?_eq_getElem (by have := HN.out; omega)⟩
      have HC := mkH (HA.out i r hr)
      have HD : Hid ((G.map Nr.d)[i]? = some r.d) := by unfold Hid; rw [List.getElem?_map, hr]; rfl
      have hw1 : IntKind.i64.wrap ((i : Int) + 1) = ((i + 1 : Nat) : Int) := by rw [IntKind.wrap_i64]; omega
      obtain ⟨nx, hnx⟩ : ∃ x, r.nxt = x := ⟨_, rfl⟩
      have hP : Hid (r.d.nxt = nx) := hnx
      have t1 := HC.out.c1
      rw [hnx] at t1
      clear hnx hr HC
      by_cases hz : nx = 0
      · subst hz
        have HL := mkH (HF.out.step HD.out (.inl hP.out))
        go_wp2
        go_roundg go
        case measure => omega
        case rel => exact ⟨i + 1, by go_num, by omega, HL.out, rfl⟩
      · have hz1 : (nx == 0) = false := by simpa using hz
        have hz2 : (nx != 0) = true := by simp [bne, hz1]
        have C0 := has_any (some ⟨g, o, none⟩) n c nx wr
        by_cases hh : 0 ≤ nx ∧ nx < (n : Int)
        · rw [decide_eq_true hh] at C0
          have C := mkH C0
          obtain ⟨k, hk⟩ : ∃ k : Nat, nx = (k : Int) := ⟨nx.toNat, by omega⟩
          subst hk
          have hk' : (k : Int) < (n : Int) := hh.2
          have hk0 : (0 : Int) ≤ (k : Int) := hh.1
          obtain ⟨s, hs⟩ : ∃ r, G[k]? = some r := ⟨_, List.getElem?_eq_getElem (by have := HN.out; omega)⟩
          have HS : Hid ((G.map Nr.d)[k]? = some s.d) := by unfold Hid; rw [List.getElem?_map, hs]; rfl
          have t2 := (HA.out k s hs).c0
          obtain ⟨pa, hpa⟩ : ∃ x, s.par = x := ⟨_, rfl⟩
          have hQ : Hid (s.d.par = pa) := hpa
          rw [hpa] at t2
          have HZ := mkH hz
          clear hpa hs hh hz C0
          by_cases he : pa = (i : Int)
          · subst he
            have HL := mkH (HF.out.step HD.out (.inr ⟨k, hP.out, s.d, HS.out, hQ.out⟩))
            go_wp2_with (go_at_call 44; refine C.out.mono ?_; rintro e w2 ⟨rfl, hw⟩; have hq := hw.symm; subst hq; clear hw)
            go_roundg go
            case measure => omega
            case rel => exact ⟨i + 1, by go_num, by omega, HL.out, rfl⟩
          · have he1 : (pa == (i : Int)) = false := by simpa using he
            have he2 : (pa != (i : Int)) = true := by simp [bne, he1]
            have HE := mkH he
            clear he
            go_wp2_with (go_at_call 44; refine C.out.mono ?_; rintro e w2 ⟨rfl, hw⟩; have hq := hw.symm; subst hq; clear hw)
            go_ret
            have hno : ¬ Leads (G.map Nr.d) := fun h => by
              rcases h i _ HD.out with h | ⟨k', h1, m, h2, h3⟩
              · exact HZ.out (hP.out.symm.trans h)
              · have : k' = k := by have := h1.symm.trans hP.out; omega
                subst this
                rw [HS.out] at h2; cases h2
                exact HE.out (hQ.out.symm.trans h3)
            exact ⟨by rw [tb_f hno]; rfl, Below.refl _ _⟩
        · rw [decide_eq_false hh] at C0
          have C := mkH C0
          have HZ := mkH hz
          have HH := mkH hh
          clear hh hz C0
          go_wp2_with (go_at_call 44; refine C.out.mono ?_; rintro e w2 ⟨rfl, hw⟩; have hq := hw.symm; subst hq; clear hw)
          go_ret
          have hno : ¬ Leads (G.map Nr.d) := fun h => by
            rcases h i _ HD.out with h | ⟨k', h1, m, h2, h3⟩
            · exact HZ.out (hP.out.symm.trans h)
            · have h4 := (List.getElem?_eq_some_iff.1 h2).1
              rw [List.length_map, HN.out] at h4
              exact HH.out (by have := h1.symm.trans hP.out; omega)
          exact ⟨by rw [tb_f hno]; rfl, Below.refl _ _⟩
    · have hi' : ¬ (i : Int) < (n : Int) := by omega
      go_wp2
      go_ret
      exact ⟨by rw [tb_t (HF.out.all (by rw [List.length_map, HN.out]; omega))]; rfl, Below.refl _ _⟩
end Go.Proofs.Ytaahklapoppgaaa

