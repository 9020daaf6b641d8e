/- The contract of Insert. -/
import Derived.Test.YtjjgloioppjcaaaCuts2
namespace Go.Proofs.Ytjjgloioppjcaaa
open Go.RowKit

theorem lit_rdb (w : World) (s o l : Int) : Rdb (w.alloc (.cells #[.int .i64 s, .int .i64 o, .int .i64 l] 39)) (.slice (some ⟨w.heap.size, 0, none⟩) 1 1) [⟨s, o, l⟩] := by
  refine ⟨_, _, _, rfl, rfl, Nat.le_refl _, .inr ⟨_, _, rfl, fun j p hj => ?_⟩⟩
  match j with
  | 0 => simp at hj; subst hj; simp
  | (j + 1) => simp at hj

theorem together_three {A B : List Sp} {p : Sp} {v1 v2 v3 : Value} (w w0 : World) (hA : okL A = true) (hB : okL B = true) (hp : rgt p = true) (hz : (A.length + B.length + 1) * 24 ≤ 140737488355328) (h1 : Rdb w v1 A) (h2 : Rdb w v2 [p]) (h3 : Rdb w v3 B) (hb : Below w0.heap.size w0 w) :
    Calls Try.prog 29 #[.slice (some ⟨w.heap.size, 0, none⟩) 3 3] (w.alloc (.cells #[v1, v2, v3] 22)) fun e w' => Gave w0.heap.size w0 (packL (A ++ p :: B)) e w' := by
  have e1 : [A, [p], B].flatten = A ++ p :: B := by simp
  have e2 : okL (p :: B) = (rgt p && okL B) := by simp [okL]
  have h := together_made [A, [p], B] [v1, v2, v3] w w0 rfl (by simp) (by rw [e1, okL_append, hA, e2, hp, hB]; rfl) (by rw [e1, List.length_append, List.length_cons]; omega) (by
    intro i L hi
    match i with
    | 0 => simp at hi; subst hi; exact ⟨_, rfl, h1⟩
    | 1 => simp at hi; subst hi; exact ⟨_, rfl, h2⟩
    | 2 => simp at hi; subst hi; exact ⟨_, rfl, h3⟩
    | (i + 3) => simp at hi) hb
  rw [e1] at h
  exact h

theorem together_late {A B : List Sp} {s o l : Int} {v1 v3 : Value} (w w0 : World) (hA : okL A = true) (hB : okL B = true) (hp : rgt ⟨s, o, l⟩ = true) (hz : (A.length + B.length + 1) * 24 ≤ 140737488355328) (h1 : Rdb w v1 A) (h3 : Rdb w v3 B) (hb : Below w0.heap.size w0 w) :
    Calls Try.prog 29 #[.slice (some ⟨w.heap.size + 1, 0, none⟩) 3 3] ((w.alloc (.cells #[.int .i64 s, .int .i64 o, .int .i64 l] 39)).alloc (.cells #[v1, .slice (some ⟨w.heap.size, 0, none⟩) 1 1, v3] 22)) fun e w' => Gave w0.heap.size w0 (packL (A ++ ⟨s, o, l⟩ :: B)) e w' := by
  have h := together_three (w.alloc (.cells #[.int .i64 s, .int .i64 o, .int .i64 l] 39)) w0 hA hB hp hz (h1.keep (bAlloc (Below.refl _ _) _)) (lit_rdb w s o l) (h3.keep (bAlloc (Below.refl _ _) _)) (bAlloc hb _)
  rw [show (w.alloc (.cells #[.int .i64 s, .int .i64 o, .int .i64 l] 39)).heap.size = w.heap.size + 1 from by simp] at h
  exact h

/-- Insert's answers -/
def insE (L : List Sp) (a : Int) (p : Sp) : Int := if rgt p = true then rfs L a a else 10
def insL (L : List Sp) (a : Int) (p : Sp) : List Sp := if insE L a p = 0 then packL (betW 0 a L ++ p :: betW a (sizeW L) L) else []

theorem three {w w' : World} {s o l : Int} (hb : Below (w.alloc (.cells #[.int .i64 s, .int .i64 o, .int .i64 l] 39)).heap.size (w.alloc (.cells #[.int .i64 s, .int .i64 o, .int .i64 l] 39)) w') :
    w'.cell? ⟨w.heap.size, 0, none⟩ = some (.int .i64 s) ∧ w'.cell? ⟨w.heap.size, 1, none⟩ = some (.int .i64 o) ∧ w'.cell? ⟨w.heap.size, 2, none⟩ = some (.int .i64 l) := by
  refine ⟨?_, ?_, ?_⟩ <;> (rw [hb.cell (by simp)]; simp)

set_option maxRecDepth 100000 in
set_option maxHeartbeats 4000000 in
theorem Insert_yes {w : World} {v : Value} {L : List Sp} (a : Int) (s o l : Int) (hz : L.length ≤ 1048576) (hg : Hid (Rng L)) (hp : Hid (rgt ⟨s, o, l⟩ = true)) (h0 : Hid (rfs L a a = 0)) (h1 : Hid (Rdb w v L)) :
    Calls Try.prog 22 #[v, .int .i64 a, .agg #[.int .i64 s, .int .i64 o, .int .i64 l]] w fun e w' => Gave1 w (packL (betW 0 a L ++ ⟨s, o, l⟩ :: betW a (sizeW L) L)) 0 e w' := by
  have HO := Hid.mk' (rfs_zero h0.out).1
  have hla := betW_length 0 a L
  have hlb := betW_length a (sizeW L) L
  have hl9 : l ≤ 9223372036854775807 := by have := (rgt_iff _).1 hp.out; dsimp only at this; omega
  generalize hA : betW 0 a L = A at *
  generalize hB : betW a (sizeW L) L = B at *
  have HA := Hid.mk' hA
  have HB := Hid.mk' hB
  clear hA hB
  go_enter Try.func22, Try.ntmps22
  go_wp2_with (first | (go_at_call 36; refine (right_any s o l _ hl9).mono ?_; rintro e w' ⟨rfl, rfl⟩; rw [hp.out])
                     | (go_at_call 31; (have Q := refusal_rdb a a (by omega) hg (h1.out.keep (bAlloc (bAlloc (Below.refl _ _) (.cells #[.int .i64 s, .int .i64 o, .int .i64 l] 39)) (.cells #[.int .i64 s, .int .i64 o, .int .i64 l] 39)))); rw [h0.out] at Q; refine Q.mono ?_; clear Q; rintro e w9 ⟨rfl, h9⟩; (have H9 := Hid.mk' (bA h9)); clear h9))
  obtain ⟨d0, d1, d2⟩ := three H9.out
  have HW := Hid.mk' (bA H9.out)
  have hlt : w.heap.size < w9.heap.size := by have := H9.out.size; simp at this; omega
  go_region_held3 (fun w' => w'.cell? ⟨w.heap.size, 0, none⟩ = some (.int .i64 s) ∧ w'.cell? ⟨w.heap.size, 1, none⟩ = some (.int .i64 o) ∧ w'.cell? ⟨w.heap.size, 2, none⟩ = some (.int .i64 l)) (first | assumption | exact three (bAlloc (bAlloc D7.out _) _) | exact three (bAlloc D7.out _) | exact three (bAlloc D8.out _) | exact three (bAlloc H9.out _) | exact three (bAlloc H9.out _).drew | simp [*, go_sem])
    (first | (go_at_call 32; refine (ahead_rdb a (by omega) HO (h1.out.keep (by first | exact HW.out.drew | exact (bAlloc HW.out _).drew))).mono ?_; rw [HA.out]; rintro e w8 ⟨v8, rfl, h8, k8, _⟩; obtain ⟨a8, c8, rfl⟩ := own_shape h8; (have K8 := Hid.mk' k8); (have R8 := Hid.mk' (own_rdb h8)); (have D8 : Hid (Below (w.alloc (.cells #[.int .i64 s, .int .i64 o, .int .i64 l] 39)).heap.size (w.alloc (.cells #[.int .i64 s, .int .i64 o, .int .i64 l] 39)) w8) := bT (by first | exact H9.out.drew | exact (bAlloc H9.out _).drew) k8); have k9 := three D8.out)
           | (go_at_call 33; refine (behind_rdb a (by omega) HO (h1.out.keep (by first | exact bA D8.out | exact bA (bAlloc D8.out _)))).mono ?_; rw [HB.out]; rintro e w7 ⟨v7, rfl, h7, k7, _⟩; obtain ⟨a7, c7, rfl⟩ := own_shape h7; (have K7 := Hid.mk' k7); (have R7 := Hid.mk' (own_rdb h7)); (have D7 : Hid (Below (w.alloc (.cells #[.int .i64 s, .int .i64 o, .int .i64 l] 39)).heap.size (w.alloc (.cells #[.int .i64 s, .int .i64 o, .int .i64 l] 39)) w7) := bT (by first | exact D8.out | exact (bAlloc D8.out _)) k7); have k9 := three D7.out)
           | (go_at_call_of 29 (Value.slice (some ⟨w7.heap.size, 0, none⟩) 3 3); (have Q := together_three w7 (w.alloc (.cells #[.int .i64 s, .int .i64 o, .int .i64 l] 39)) (A := A) (B := B) (p := ⟨s, o, l⟩) (by rw [← HA.out]; exact betW_ok HO.out) (by rw [← HB.out]; exact betW_ok HO.out) hp.out (by omega) (by first | exact R8.out.keep K7.out | exact ((R8.out.keep (bAlloc (Below.refl _ _) _)).keep K7.out)) (by first | exact ((lit_rdb w8 s o l).keep K7.out) | exact (((lit_rdb w9 s o l).keep (bD K8.out)).keep K7.out)) R7.out D7.out); refine Q.mono ?_; clear Q; rintro e w6 ⟨v6, rfl, h6, k6, _⟩; (have H6 := Hid.mk' (And.intro h6 k6)); (have D6 := Hid.mk' k6); have k9 := three D6.out)
           | (go_at_call 29; (have Q := together_late w7 (w.alloc (.cells #[.int .i64 s, .int .i64 o, .int .i64 l] 39)) (A := A) (B := B) (by rw [← HA.out]; exact betW_ok HO.out) (by rw [← HB.out]; exact betW_ok HO.out) hp.out (by omega) (R8.out.keep K7.out) R7.out D7.out); refine Q.mono ?_; clear Q; rintro e w6 ⟨v6, rfl, h6, k6, _⟩; (have H6 := Hid.mk' (And.intro h6 k6)); (have D6 := Hid.mk' k6); have k9 := three D6.out))
  all_goals go_wp2
  all_goals exact bodyPost_ret (v := .tuple #[v6, .int .i64 0]) (by simp [results, Try.results22, go_sem]) rfl ⟨v6, rfl, own_lower H6.out.1 (by simp), bA H6.out.2⟩

set_option maxRecDepth 100000 in
set_option maxHeartbeats 2000000 in
theorem Insert_rdb {w : World} {v : Value} {L : List Sp} (a : Int) (s o l : Int) (hl9 : l ≤ 9223372036854775807) (hz : L.length ≤ 1048576) (hg : Hid (Rng L)) (h1 : Hid (Rdb w v L)) :
    Calls Try.prog 22 #[v, .int .i64 a, .agg #[.int .i64 s, .int .i64 o, .int .i64 l]] w fun e w' => Gave1 w (insL L a ⟨s, o, l⟩) (insE L a ⟨s, o, l⟩) e w' := by
  unfold insL insE
  cases hp : rgt ⟨s, o, l⟩ with
  | false =>
    have HP := Hid.mk' hp
    clear hp
    simp only [Bool.false_eq_true, if_false]
    rw [if_neg (by omega)]
    go_enter Try.func22, Try.ntmps22
    go_wp2_with (go_at_call 36; refine (right_any s o l _ hl9).mono ?_; rintro e w' ⟨rfl, rfl⟩; rw [HP.out])
    exact bodyPost_ret (v := .tuple #[.slice none 0 0, .int .i64 10]) (by simp [results, Try.results22, go_sem]) rfl ⟨_, rfl, World.ownsRow_nil _ _ _ _, bAlloc (bAlloc (Below.refl _ _) _) _⟩
  | true =>
    simp only [if_true]
    by_cases h0 : rfs L a a = 0
    · rw [if_pos h0, h0]
      exact Insert_yes a s o l hz hg hp h0 h1
    · rw [if_neg h0]
      have HP := Hid.mk' hp
      clear hp
      generalize hR : rfs L a a = R at *
      have HR := Hid.mk' hR
      clear hR
      go_enter Try.func22, Try.ntmps22
      go_wp2_with (first | (go_at_call 36; refine (right_any s o l _ hl9).mono ?_; rintro e w' ⟨rfl, rfl⟩; rw [HP.out])
                         | (go_at_call 31; (have Q := refusal_rdb a a (by omega) hg (h1.out.keep (bAlloc (bAlloc (Below.refl _ _) (.cells #[.int .i64 s, .int .i64 o, .int .i64 l] 39)) (.cells #[.int .i64 s, .int .i64 o, .int .i64 l] 39)))); rw [HR.out] at Q; refine Q.mono ?_; clear Q; rintro e w9 ⟨rfl, h9⟩; (have H9 := Hid.mk' (bA (bA h9))); clear h9))
      exact bodyPost_ret (v := .tuple #[.slice none 0 0, .int .i64 R]) (by simp [results, Try.results22, go_sem]) rfl ⟨_, rfl, World.ownsRow_nil _ _ _ _, H9.out⟩
end Go.Proofs.Ytjjgloioppjcaaa
