/- The contract of the laws' bytes. -/
import Derived.Test.YtjjgloioppjcaaaPairs
namespace Go.Proofs.Ytjjgloioppjcaaa
open Go.RowKit

def bytW1 (p : Sp) : List (Int × Int) := (List.range p.l.toNat).map fun (k : Nat) => (p.s, IntKind.i64.wrap (p.o + (k : Int)))
def bytW (L : List Sp) : List (Int × Int) := L.flatMap bytW1
theorem bytW_take {L : List Sp} {j : Nat} {p : Sp} (h : L[j]? = some p) : bytW (L.take (j + 1)) = bytW (L.take j) ++ bytW1 p := by
  obtain ⟨h1, h2⟩ := List.getElem?_eq_some_iff.1 h
  rw [List.take_succ_eq_append_getElem h1, h2]; simp [bytW]
theorem bytW1_length (p : Sp) : (bytW1 p).length = p.l.toNat := by simp [bytW1]
theorem bytW1_take (p : Sp) (k : Nat) (h : k < p.l.toNat) : (bytW1 p).take (k + 1) = (bytW1 p).take k ++ [(p.s, IntKind.i64.wrap (p.o + (k : Int)))] := by
  rw [List.take_succ_eq_append_getElem (by rw [bytW1_length]; exact h)]
  simp [bytW1]
def cnd (L : List Sp) (j : Nat) (p : Sp) : Prop := 0 ≤ p.l ∧ p.l ≤ 5000 ∧ ((bytW (L.take j)).length : Int) + p.l ≤ 5000
/-- not too many bytes -/
def okS (L : List Sp) : Prop := ∀ j p, L[j]? = some p → cnd L j p
/-- the list of pairs that has come about -/
def SofarP (w : World) (M : List (Int × Int)) (v : Value) (wr : World) : Prop := wr.ownsRow w.heap.size 55 2 v M.length (pcells M) ∧ (M = [] → v = .slice none 0 0) ∧ Below w.heap.size w wr
/-- what bytes gives -/
def GaveB (w : World) (L : List Sp) (e : Ending) (w' : World) : Prop :=
  (okS L ∧ ∃ v, e = .returned (.tuple #[v, .bool true]) ∧ SofarP w (bytW L) v w') ∨ (¬ okS L ∧ e = .returned (.tuple #[.slice none 0 0, .bool false]) ∧ Below w.heap.size w w')
theorem put_pair (w : World) (s o : Int) : ∀ j u, ([Value.int .i64 s, .int .i64 o])[j]? = some u → (w.alloc (.cells #[.int .i64 s, .int .i64 o] 55)).cell? ((⟨w.heap.size, 0, none⟩ : Addr).add j) = some u := fun j u h => lit_cells w _ 55 j u h
theorem two2 (s o : Int) : ∀ u ∈ [Value.int .i64 s, .int .i64 o], u.oneCell' = true := by
  intro u hu; simp at hu; rcases hu with rfl | rfl <;> rfl

set_option maxRecDepth 100000 in
set_option maxHeartbeats 4000000 in
theorem bytes_any (ao : Option Addr) (c : Nat) (L : List Sp) (w : World) (hz : L.length ≤ 4194304) (hr : Hid (L = [] ∨ ∃ b off, ao = some ⟨b, off, none⟩ ∧ Row w b off L)) (hg : Hid (Rng L)) :
    Calls Try.prog 23 #[.slice ao L.length c] w fun e w' => GaveB w L e w' := by
  obtain ⟨i0, hi, hz0, hz1, hz2⟩ := info_parts info55
  go_enter Try.func23, Try.ntmps23
  go_wp2
  go_loopw [4, 5] (fun v i wq => ∃ m : Nat, m ≤ L.length ∧ i = .int .i64 m ∧ (∀ j p, j < m → L[j]? = some p → cnd L j p) ∧ SofarP w (bytW (L.take m)) v wq ∧ (bytW (L.take m)).length ≤ 5000) (fun _ i _ => L.length - (intOf i).toNat)
  case atStart => exact ⟨0, Nat.zero_le _, rfl, fun j p hj => by omega, ⟨World.ownsRow_nil _ _ _ _, fun _ => rfl, Below.refl _ _⟩, by simp [bytW]⟩
  case round =>
    obtain ⟨m, hm, rfl, hcn, hS, hlen⟩ := hrel
    have HC := Hid.mk' hcn
    have HS := Hid.mk' hS
    clear hcn hS
    by_cases hmt : m < L.length
    · rcases hr.out with hn | ⟨b', off, rfl, hrw⟩
      · rw [hn] at hmt; simp at hmt
      rcases hp : L[m]? with _ | ⟨s, o, l⟩
      · have := List.getElem?_eq_none_iff.1 hp; omega
      obtain ⟨r0, r1, r2⟩ := row3 (hrw.keep HS.out.2.2) hp
      have hm0 : (0 : Int) ≤ (m : Int) := by omega
      have hml : (m : Int) < (L.length : Int) := by omega
      have HP := Hid.mk' hp
      have HR := Hid.mk' hrw
      have hl9 : l ≤ 9223372036854775807 := hg.out _ (List.mem_of_getElem? hp)
      obtain ⟨av, cv, rfl⟩ := own_shape HS.out.1
      clear hp hrw hr
      by_cases q1 : l < 0
      · go_wp2
        refine bodyPost_ret (v := .tuple #[.slice none 0 0, .bool false]) (by simp [results, Try.results23, go_sem]) rfl (.inr ⟨fun h => ?_, rfl, HS.out.2.2⟩)
        have := (h m _ HP.out).1; dsimp only at this; omega
      · by_cases q2 : 5000 < l
        · go_wp2
          refine bodyPost_ret (v := .tuple #[.slice none 0 0, .bool false]) (by simp [results, Try.results23, go_sem]) rfl (.inr ⟨fun h => ?_, rfl, HS.out.2.2⟩)
          have := (h m _ HP.out).2.1; dsimp only at this; omega
        · by_cases q3 : 5000 < ((bytW (L.take m)).length : Int) + l
          · go_wp2
            refine bodyPost_ret (v := .tuple #[.slice none 0 0, .bool false]) (by simp [results, Try.results23, go_sem]) rfl (.inr ⟨fun h => ?_, rfl, HS.out.2.2⟩)
            have := (h m _ HP.out).2.2; dsimp only at this; omega
          · have HC2 : Hid (∀ j p, j < m + 1 → L[j]? = some p → cnd L j p) := fun j p hj hjp => by
              by_cases e : j = m
              · subst e
                rw [HP.out] at hjp
                have := Option.some.inj hjp
                subst this
                exact ⟨by dsimp only; omega, by dsimp only; omega, by dsimp only; omega⟩
              · exact HC.out j p (by omega) hjp
            have HE := Hid.mk' (bytW_take HP.out)
            have hl2 : (bytW1 ⟨s, o, l⟩).length = l.toNat := bytW1_length _
            have HL := Hid.mk' hl2
            clear HC hl2
            generalize hM : bytW (L.take m) = M at *
            clear hM
            go_wp2
            go_loopw [4, 6] (fun v i wq => ∃ k : Nat, (k : Int) ≤ l ∧ i = .int .i64 k ∧ SofarP w (M ++ (bytW1 ⟨s, o, l⟩).take k) v wq) (fun _ i _ => l.toNat - (intOf i).toNat)
            case atStart => exact ⟨0, by omega, rfl, by simpa using HS.out⟩
            case round =>
              obtain ⟨k, hk, rfl, hT⟩ := hrel
              have HT := Hid.mk' hT
              clear hT HS r0 r1 r2
              obtain ⟨r0, r1, r2⟩ := row3 (HR.out.keep HT.out.2.2) HP.out
              obtain ⟨ak, ck, rfl⟩ := own_shape HT.out.1
              have hn : (M ++ (bytW1 ⟨s, o, l⟩).take k).length = M.length + k := by have := HL.out; rw [List.length_append, List.length_take]; omega
              by_cases hkt : (k : Int) < l
              · have HK : Hid (M ++ (bytW1 ⟨s, o, l⟩).take (k + 1) = M ++ (bytW1 ⟨s, o, l⟩).take k ++ [(s, IntKind.i64.wrap (o + (k : Int)))]) := by
                  unfold Hid; rw [bytW1_take _ _ (by dsimp only; omega), List.append_assoc]
                have HN := Hid.mk' hn
                have hnn : (M ++ (bytW1 ⟨s, o, l⟩).take k).length ≤ 5000 := by rw [hn]; omega
                clear hn HN
                generalize hMM : M ++ (bytW1 ⟨s, o, l⟩).take k = MM at *
                clear hMM
                go_wp2
                go_region_held3 (fun w' => w'.cell? ⟨b', off + m * 3, none⟩ = some (.int .i64 s) ∧ w'.cell? ⟨b', off + m * 3 + 1, none⟩ = some (.int .i64 o) ∧ w'.cell? ⟨b', off + m * 3 + 2, none⟩ = some (.int .i64 l)) (first | assumption | exact row3 (HR.out.keep (bAlloc HT.out.2.2 _)) HP.out | exact row3 (HR.out.keep (bAlloc HT.out.2.2 _).drew) HP.out | simp [*, go_sem])
                  (first | (refine step_append_lies _ (by rfl) (.tmp 47) (.tmp 61) 43 (by rfl) w.heap.size 55 i0 (.agg #[.int .i64 0, .int .i64 0]) 2 16 Try.underlying43 hi hz0 hz1 hz2 (by rfl) (by decide) (.slice ak MM.length ck) MM.length (pcells MM) (by rfl) (own_drew (HT.out.1.alloc _)) ⟨wr.heap.size, 0, none⟩ 1 1 [.int .i64 s, .int .i64 (IntKind.i64.wrap (o + (k : Int)))] (by rfl) (by rfl) (put_pair wr s (IntKind.i64.wrap (o + (k : Int)))) (two2 s (IntKind.i64.wrap (o + (k : Int)))) (by decide) (by unfold maxLen; omega) (by omega) (by have := HT.out.2.2.size; simp; omega) (wr.heap.size + 1) (by simp) ?_; intro g6 c6 w6 hown6 hgrow6 hat6 hlt6; (have D6 : Hid (Below w.heap.size w w6) := ((bAlloc HT.out.2.2 _).drew).grown hgrow6 (by have := HT.out.2.2.size; simp; omega) (fun k hk => (HT.out.1.lt k hk).1)); (have R6 := Hid.mk' hown6); have k9 := row3 (HR.out.keep D6.out) HP.out))
                clear hown6 hgrow6 hat6 hlt6
                go_wp2
                go_roundw
                case rel => exact ⟨k + 1, by omega, by go_num, by rw [HK.out]; exact ⟨by rw [pcells_append]; simpa [pcells, pcs] using R6.out, fun h => by simp at h, D6.out⟩⟩
                case measure => simp [intOf]; omega
              · have hkl : k = l.toNat := by omega
                have HT2 : Hid (SofarP w (bytW (L.take (m + 1))) (.slice ak (M ++ (bytW1 ⟨s, o, l⟩).take k).length ck) wr) := by
                  unfold Hid
                  have h1 := HT.out
                  have e : (bytW1 ⟨s, o, l⟩).take k = bytW1 ⟨s, o, l⟩ := List.take_of_length_le (by have := HL.out; omega)
                  rw [HE.out]
                  rw [e] at h1 ⊢
                  exact h1
                have hl5 : Hid ((bytW (L.take (m + 1))).length ≤ 5000) := by unfold Hid; rw [HE.out, List.length_append]; have := HL.out; omega
                clear hkl hn
                generalize (M ++ (bytW1 ⟨s, o, l⟩).take k).length = nk at *
                go_wp2
                go_roundw
                case rel => exact ⟨m + 1, by omega, by go_num, HC2.out, HT2.out, hl5.out⟩
                case measure => simp [intOf]; omega
    · obtain rfl : m = L.length := by omega
      have hok : okS L := fun j p hjp => HC.out j p (List.getElem?_eq_some_iff.1 hjp).1 hjp
      rw [List.take_length] at HS
      go_wp2
      exact bodyPost_ret (v := .tuple #[u4, .bool true]) (by simp [results, Try.results23, go_sem]) rfl (.inl ⟨hok, u4, rfl, HS.out⟩)
theorem bytes_rdb {w : World} {v : Value} {L : List Sp} (hz : L.length ≤ 4194304) (hg : Rng L) (h1 : Rdb w v L) :
    Calls Try.prog 23 #[v] w fun e w' => GaveB w L e w' := by
  obtain ⟨a1, c1, rfl⟩ := rdb_shape h1
  exact bytes_any a1 c1 L w hz (rdb_row h1) hg
end Go.Proofs.Ytjjgloioppjcaaa
