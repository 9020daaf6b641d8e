/- % : the program's across. -/
import Derived.Test.YtkapddemgodamaaDoorPar
import Derived.Test.YtkapddemgodamaaDoorBlk
namespace Go.Proofs.YtkapddemgodamaaDoor
open Go.RowKit

/-- where % leads -/
def xa (l : List UInt8) (p : Nat) : Option Nat := (fq l (l.length - p) p).bind (pt l)
theorem fq_some {l : List UInt8} : ∀ {d i q : Nat}, fq l d i = some q → i ≤ q ∧ q < i + d ∧ pk (bi l q) = true ∧ ∀ j, i ≤ j → j < q → bi l j ≠ 10 ∧ pk (bi l j) = false
  | 0, i, q, h => by simp [fq] at h
  | d + 1, i, q, h => by
    unfold fq at h
    split at h
    · cases h
    · next h10 =>
      split at h
      · next hk => cases h; exact ⟨Nat.le_refl _, by omega, hk, fun j h1 h2 => by omega⟩
      · next hk =>
        obtain ⟨h1, h2, h3, h4⟩ := fq_some h
        refine ⟨by omega, by omega, h3, fun j hj1 hj2 => ?_⟩
        by_cases hji : j = i
        · subst hji; exact ⟨h10, by simpa using hk⟩
        · exact h4 j (by omega) hj2

set_option maxHeartbeats 2000000 in
theorem across_any {ao : Option Addr} {n c p : Nat} {l : List UInt8} {w : World} (hp : p ≤ n) (HT : Hid (Tx w ao n c l)) :
    Calls Tryd.prog 23 #[.slice ao n c, .int .i64 p] w fun e w' => e = mvE p 2 (xa l p) ∧ Below w.heap.size w w' := by
  have hl := HT.out.len
  have hbig := HT.out.big
  have HX : Hid (xa l p = (fq l (n - p) p).bind (pt l)) := by unfold Hid xa; rw [hl]
  have T1 := Hid.mk' (fun o => HT.out.keep (bAlloc (Below.refl w.heap.size w) o))
  have C1 := Hid.mk' (fun o => bracketFrom_any (p := p) hp (T1.out o))
  unfold oq at C1
  cases hf : fq l (n - p) p with
  | none =>
    rw [hf] at HX C1
    have HX' : Hid (xa l p = none) := HX.out
    generalize xa l p = r at *
    clear hf HX
    go_enter Tryd.func23, Tryd.ntmps23
    go_wp2_with fail
    refine (C1.out _).mono ?_
    rintro e w' ⟨rfl, hq⟩
    have hq2 := hq.symm; subst hq2; clear hq
    go_wp2
    exact bodyPost_ret (v := .tuple #[.agg #[.int .i64 0, .int .i64 0, .int .i64 0], .int .i64 70]) (by simp [results, Tryd.results23, go_sem]) rfl ⟨by rw [HX'.out]; rfl, by repeat (first | exact bAlloc (Below.refl _ _) _ | refine Below.setCell ?_ (Nat.le_refl _) _)⟩
  | some q =>
    obtain ⟨hq1, hq2, hpk, _⟩ := fq_some hf
    rw [hf] at HX C1
    have HX' : Hid (xa l p = pt l q) := HX.out
    have C2 := Hid.mk' (fun o => partnerOf_any (p := q) (by omega) hpk (T1.out o))
    unfold oq at C2
    generalize xa l p = r at *
    generalize pt l q = s at *
    clear hf HX hpk
    go_enter Tryd.func23, Tryd.ntmps23
    go_wp2_with fail
    refine (C1.out _).mono ?_
    rintro e w' ⟨rfl, hq⟩
    have hq2 := hq.symm; subst hq2; clear hq
    go_wp2_with fail
    refine (C2.out _).mono ?_
    rintro e w2 ⟨rfl, hb2⟩
    have B2 := Hid.mk' (bT (bAlloc (Below.refl _ _) _) hb2)
    have TB := Hid.mk' ((Blk.new w 30 #[.int .i64 0, .int .i64 0, .int .i64 0]).keep hb2)
    have d0 : w2.cell? ⟨w.heap.size, 0, none⟩ = some (.int .i64 0) := TB.out.cell rfl
    have d1 : w2.cell? ⟨w.heap.size, 1, none⟩ = some (.int .i64 0) := TB.out.cell rfl
    have d2 : w2.cell? ⟨w.heap.size, 2, none⟩ = some (.int .i64 0) := TB.out.cell rfl
    have f0 := TB.out.frozen 0
    have f1 := TB.out.frozen 1
    have f2 := TB.out.frozen 2
    clear hb2
    cases s with
    | none =>
      go_wp2
      exact bodyPost_ret (v := .tuple #[.agg #[.int .i64 0, .int .i64 0, .int .i64 0], .int .i64 70]) (by simp [results, Tryd.results23, go_sem, d0, d1, d2]) rfl ⟨by rw [HX'.out]; rfl, put3_below B2.out (Nat.le_refl _) _ _ _⟩
    | some z =>
      go_wp2
      exact bodyPost_ret (v := .tuple #[.agg #[.int .i64 p, .int .i64 z, .int .i64 2], .int .i64 0]) (by simp [results, Tryd.results23, go_sem, d0, d1, d2]) rfl ⟨by rw [HX'.out]; rfl, put3_below B2.out (Nat.le_refl _) _ _ _⟩
end Go.Proofs.YtkapddemgodamaaDoor
