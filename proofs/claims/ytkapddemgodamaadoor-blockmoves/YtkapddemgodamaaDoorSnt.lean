/- The sentence's end and beginning: the program, by the library's contracts. -/
import Derived.Test.YtkapddemgodamaaDoorGap
import Derived.Test.YtkapddemgodamaaDoorLent
import Derived.Lib.SlBytesConst
namespace Go.Proofs.YtkapddemgodamaaDoor
open Go.RowKit

/-- the library's own variable MaxLen holds some number -/
def Gl (w : World) : Prop := ∃ m, w.cell? ⟨0, 0, none⟩ = some (.int .i64 m)
theorem Gl.keep {w w' : World} (h : Gl w) (hb : Below w.heap.size w w') : Gl w' := by
  obtain ⟨m, hm⟩ := h
  exact ⟨m, by rw [hb.cell (World.block_lt_of_cell? w _ hm)]; exact hm⟩
theorem keepC {w w' : World} {a : Addr} {v : Value} (hb : Below w.heap.size w w') (h : w.cell? a = some v) : w'.cell? a = some v := by
  rw [hb.cell (World.block_lt_of_cell? w _ h)]; exact h
theorem Tx.bytesAt {w : World} {ao : Option Addr} {n c : Nat} {l : List UInt8} (h : Tx w ao n c l) : Lib.BytesAt w ao n l := by
  intro hn
  obtain ⟨g, o, rfl, hc⟩ := h.at hn
  exact ⟨g, o, rfl, fun i hi => by rw [hc i hi]; rfl⟩
theorem trm_le (l : List UInt8) : trm l ≤ l.length := by
  unfold trm Lib.trimRightS
  rw [List.length_reverse]
  exact Nat.le_trans (List.dropWhile_sublist _).length_le (by simp)
theorem info71 : (Tryd.prog.info? 71).map (fun i => (i.zero, i.size)) = some (some (.agg (Array.replicate 256 (.bool false))), 256) := by kernel_rfl
theorem trimRight_any {ao : Option Addr} {n c : Nat} {l : List UInt8} {w : World} (hc : c ≤ 9223372036854775807) (HT : Hid (Tx w ao n c l)) :
    Calls Tryd.prog 47 #[.slice ao n c, .string { data := #[41, 93, 34, 39] }] w fun e w' => e = .returned (.slice ao (trm l) c) ∧ Below w.heap.size w w' :=
  Any.bytes_TrimRight_ascii laysV7 (zero_of_info info71).1 (zero_of_info info71).2 ao n c l { data := #[41, 93, 34, 39] } w HT.out.len HT.out.cap hc HT.out.bytesAt (by decide)
    (fun j b hj => by
      have : j = 0 ∨ j = 1 ∨ j = 2 ∨ j = 3 ∨ 4 ≤ j := by omega
      rcases this with rfl | rfl | rfl | rfl | h
      · simp at hj; subst hj; decide
      · simp at hj; subst hj; decide
      · simp at hj; subst hj; decide
      · simp at hj; subst hj; decide
      · simp at hj; obtain ⟨h4, _⟩ := List.getElem?_eq_some_iff.1 hj; simp at h4; omega)
theorem byte_back8 (b : UInt8) : ((b.toNat : Int)).toNat.toUInt8 = b := by simp
theorem em_index (b : UInt8) : em b = decide (0 ≤ Lib.indexByte [46, 33, 63] b) := by
  unfold em Lib.indexByte Lib.indexByte Lib.indexByte Lib.indexByte
  by_cases h1 : b = 46
  · subst h1; rfl
  by_cases h2 : b = 33
  · subst h2; rfl
  by_cases h3 : b = 63
  · subst h3; rfl
  have e1 : ((46 : UInt8) == b) = false := by simp; exact fun e => h1 e.symm
  have e2 : ((33 : UInt8) == b) = false := by simp; exact fun e => h2 e.symm
  have e3 : ((63 : UInt8) == b) = false := by simp; exact fun e => h3 e.symm
  simp [e1, e2, e3, h1, h2, h3]
theorem indexMark (b : UInt8) (w : World) : Calls Tryd.prog 48 #[.string { data := #[46, 33, 63] }, .int .u8 (b.toNat : Int)] w fun e w' => e = .returned (.int .i64 (Lib.indexByte [46, 33, 63] b)) ∧ w' = w := by
  have := strings_IndexByte { data := #[46, 33, 63] } (b.toNat : Int) w
  rwa [byte_back8] at this

set_option maxHeartbeats 1000000 in
theorem endsSentence_any {ao : Option Addr} {n c : Nat} {l : List UInt8} {w : World} (hc : c ≤ 9223372036854775807) (HT : Hid (Tx w ao n c l)) :
    Calls Tryd.prog 44 #[.slice ao n c] w fun e w' => e = .returned (.bool (es l)) ∧ Below w.heap.size w w' := by
  have hbig := HT.out.big
  have hcap := HT.out.cap
  have hl := HT.out.len
  have ht := trm_le l
  have C1 := Hid.mk' (trimRight_any hc HT)
  have HE : Hid (es l = (decide (0 < trm l) && em (at8 l (trm l - 1)))) := rfl
  generalize trm l = m at *
  go_enter Tryd.func44, Tryd.ntmps44
  go_wp2_with fail
  refine C1.out.mono ?_
  rintro e w1 ⟨rfl, hb1⟩
  have B1 := Hid.mk' hb1
  clear hb1
  by_cases hm : m = 0
  · subst hm
    go_wp2
    all_goals go_ret
    all_goals exact ⟨by rw [HE.out]; rfl, B1.out⟩
  · have T1 := HT.out.keep B1.out
    obtain ⟨g, o, rfl, hcl⟩ := T1.at (by omega)
    have hc1 := hcl (m - 1) (by omega)
    have hw : IntKind.i64.wrap ((m : Int) - 1) = ((m - 1 : Nat) : Int) := by rw [IntKind.wrap_i64]; omega
    have h0 : (0 : Int) < (m : Int) := by omega
    have h1 : (0 : Int) ≤ ((m - 1 : Nat) : Int) := by omega
    have h2 : ((m - 1 : Nat) : Int) < (m : Int) := by omega
    have HM := Hid.mk' h0
    have C2 := Hid.mk' (indexMark (at8 l (m - 1)) w1)
    have HI := Hid.mk' (em_index (at8 l (m - 1)))
    generalize Lib.indexByte [46, 33, 63] (at8 l (m - 1)) = x at *
    clear hcl T1
    generalize hmm : m - 1 = m1 at *
    clear hmm
    go_wp2_with fail
    refine C2.out.mono ?_
    rintro e w' ⟨rfl, hq⟩
    have hq2 := hq.symm; subst hq2; clear hq
    go_wp2
    all_goals go_ret
    all_goals (refine ⟨?_, B1.out⟩; rw [HE.out, HI.out]; have := HM.out; simp; omega)
end Go.Proofs.YtkapddemgodamaaDoor
