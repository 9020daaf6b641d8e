/- The reference's Take refused. -/
import Derived.Test.YtbknnicpdkpmiaaTk0
namespace Go.Proofs.Ytbknnicpdkpmiaa
open Go.RowKit

set_option maxRecDepth 8000
set_option maxHeartbeats 2000000 in
theorem rtake_no (ao : Option Addr) (n c : Nat) (F T : Int) (L D : Bool) (l : List UInt8) (w : World) (HT : Hid (Tx w ao n c l)) (h : rgB l F T L D = false) :
    Calls Try.prog 13 #[.slice ao n c, .agg #[.int .i64 F, .int .i64 T, .bool L, .bool D]] w fun e w' => e = tr false false (.slice none 0 0) 2 ∧ Below w.heap.size w w' := by
  have hlen := HT.out.len
  unfold rgB at h
  rw [hlen] at h
  by_cases h1 : F < 0
  · clear h hlen
    cases L <;> cases D
    · go_enter Try.func13, Try.ntmps13
      go_wp2
      all_goals exact bodyPost_ret (v := .tuple #[.agg #[.bool false, .bool false, .slice none 0 0], .int .i64 2]) (by simp [results, Try.results13, go_sem]) rfl ⟨rfl, by first | exact bAlloc (bAlloc (Below.refl _ _) _) _ | exact (bAlloc (bAlloc (Below.refl _ _) _) _).drew⟩
    · go_enter Try.func13, Try.ntmps13
      go_wp2
      all_goals exact bodyPost_ret (v := .tuple #[.agg #[.bool false, .bool false, .slice none 0 0], .int .i64 2]) (by simp [results, Try.results13, go_sem]) rfl ⟨rfl, by first | exact bAlloc (bAlloc (Below.refl _ _) _) _ | exact (bAlloc (bAlloc (Below.refl _ _) _) _).drew⟩
    · go_enter Try.func13, Try.ntmps13
      go_wp2
      all_goals exact bodyPost_ret (v := .tuple #[.agg #[.bool false, .bool false, .slice none 0 0], .int .i64 2]) (by simp [results, Try.results13, go_sem]) rfl ⟨rfl, by first | exact bAlloc (bAlloc (Below.refl _ _) _) _ | exact (bAlloc (bAlloc (Below.refl _ _) _) _).drew⟩
    · go_enter Try.func13, Try.ntmps13
      go_wp2
      all_goals exact bodyPost_ret (v := .tuple #[.agg #[.bool false, .bool false, .slice none 0 0], .int .i64 2]) (by simp [results, Try.results13, go_sem]) rfl ⟨rfl, by first | exact bAlloc (bAlloc (Below.refl _ _) _) _ | exact (bAlloc (bAlloc (Below.refl _ _) _) _).drew⟩
  by_cases h2 : T < F
  · clear h hlen
    cases L <;> cases D
    · go_enter Try.func13, Try.ntmps13
      go_wp2
      all_goals exact bodyPost_ret (v := .tuple #[.agg #[.bool false, .bool false, .slice none 0 0], .int .i64 2]) (by simp [results, Try.results13, go_sem]) rfl ⟨rfl, by first | exact bAlloc (bAlloc (Below.refl _ _) _) _ | exact (bAlloc (bAlloc (Below.refl _ _) _) _).drew⟩
    · go_enter Try.func13, Try.ntmps13
      go_wp2
      all_goals exact bodyPost_ret (v := .tuple #[.agg #[.bool false, .bool false, .slice none 0 0], .int .i64 2]) (by simp [results, Try.results13, go_sem]) rfl ⟨rfl, by first | exact bAlloc (bAlloc (Below.refl _ _) _) _ | exact (bAlloc (bAlloc (Below.refl _ _) _) _).drew⟩
    · go_enter Try.func13, Try.ntmps13
      go_wp2
      all_goals exact bodyPost_ret (v := .tuple #[.agg #[.bool false, .bool false, .slice none 0 0], .int .i64 2]) (by simp [results, Try.results13, go_sem]) rfl ⟨rfl, by first | exact bAlloc (bAlloc (Below.refl _ _) _) _ | exact (bAlloc (bAlloc (Below.refl _ _) _) _).drew⟩
    · go_enter Try.func13, Try.ntmps13
      go_wp2
      all_goals exact bodyPost_ret (v := .tuple #[.agg #[.bool false, .bool false, .slice none 0 0], .int .i64 2]) (by simp [results, Try.results13, go_sem]) rfl ⟨rfl, by first | exact bAlloc (bAlloc (Below.refl _ _) _) _ | exact (bAlloc (bAlloc (Below.refl _ _) _) _).drew⟩
  by_cases h3 : (n : Int) < T
  · clear h hlen
    cases L <;> cases D
    · go_enter Try.func13, Try.ntmps13
      go_wp2
      all_goals exact bodyPost_ret (v := .tuple #[.agg #[.bool false, .bool false, .slice none 0 0], .int .i64 2]) (by simp [results, Try.results13, go_sem]) rfl ⟨rfl, by first | exact bAlloc (bAlloc (Below.refl _ _) _) _ | exact (bAlloc (bAlloc (Below.refl _ _) _) _).drew⟩
    · go_enter Try.func13, Try.ntmps13
      go_wp2
      all_goals exact bodyPost_ret (v := .tuple #[.agg #[.bool false, .bool false, .slice none 0 0], .int .i64 2]) (by simp [results, Try.results13, go_sem]) rfl ⟨rfl, by first | exact bAlloc (bAlloc (Below.refl _ _) _) _ | exact (bAlloc (bAlloc (Below.refl _ _) _) _).drew⟩
    · go_enter Try.func13, Try.ntmps13
      go_wp2
      all_goals exact bodyPost_ret (v := .tuple #[.agg #[.bool false, .bool false, .slice none 0 0], .int .i64 2]) (by simp [results, Try.results13, go_sem]) rfl ⟨rfl, by first | exact bAlloc (bAlloc (Below.refl _ _) _) _ | exact (bAlloc (bAlloc (Below.refl _ _) _) _).drew⟩
    · go_enter Try.func13, Try.ntmps13
      go_wp2
      all_goals exact bodyPost_ret (v := .tuple #[.agg #[.bool false, .bool false, .slice none 0 0], .int .i64 2]) (by simp [results, Try.results13, go_sem]) rfl ⟨rfl, by first | exact bAlloc (bAlloc (Below.refl _ _) _) _ | exact (bAlloc (bAlloc (Below.refl _ _) _) _).drew⟩
  rw [decide_eq_true (by omega), Bool.true_and] at h
  have hb : leB l F = false ∧ L = true ∧ D = true := by
    cases L <;> cases D <;> simp_all
  obtain ⟨hb, rfl, rfl⟩ := hb
  clear h
  obtain ⟨f, rfl⟩ := Int.eq_ofNat_of_zero_le (show 0 ≤ F by omega)
  by_cases hf : f = n
  · subst hf
    clear hb hlen
    go_enter Try.func13, Try.ntmps13
    go_wp2
    all_goals exact bodyPost_ret (v := .tuple #[.agg #[.bool false, .bool false, .slice none 0 0], .int .i64 2]) (by simp [results, Try.results13, go_sem]) rfl ⟨rfl, by first | exact bAlloc (bAlloc (Below.refl _ _) _) _ | exact (bAlloc (bAlloc (Below.refl _ _) _) _).drew⟩
  · have hfn : f < n := by omega
    have hfn' : (f : Int) < n := by omega
    have hne : ((f : Int) == (n : Int)) = false := by simp; omega
    have hne2 : ¬ (f : Int) = (n : Int) := by omega
    have hle : le (at8 l f) = false := by
      unfold leB at hb
      rw [hlen, decide_eq_true (by omega), Bool.true_and] at hb
      exact hb
    have h10 : (((at8 l f).toNat : Int) == 10) = false := hle
    have hn10 : (((at8 l f).toNat : Int) != 10) = true := by simp only [bne, h10]; rfl
    obtain ⟨g, o, rfl, hc⟩ := HT.out.at (by omega)
    have hc0 := hc f (by omega)
    have hg : g < w.heap.size := lt_of_cell hc0
    have hg1 : ¬ g = w.heap.size := by omega
    have hg2 : ¬ g = w.heap.size + 1 := by omega
    clear hc hb hlen hf hle
    go_enter Try.func13, Try.ntmps13
    go_wp2
    all_goals exact bodyPost_ret (v := .tuple #[.agg #[.bool false, .bool false, .slice none 0 0], .int .i64 2]) (by simp [results, Try.results13, go_sem]) rfl ⟨rfl, by first | exact bAlloc (bAlloc (Below.refl _ _) _) _ | exact (bAlloc (bAlloc (Below.refl _ _) _) _).drew⟩

end Go.Proofs.Ytbknnicpdkpmiaa
