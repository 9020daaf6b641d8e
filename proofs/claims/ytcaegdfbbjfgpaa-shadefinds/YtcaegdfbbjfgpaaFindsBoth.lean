/- The walk of quoinlaw02.ShadeFinds, one way. -/
import Derived.Test.YtcaegdfbbjfgpaaFindsKit
namespace Go.Proofs.Ytcaegdfbbjfgpaa
open Go.RowKit

set_option maxRecDepth 100000 in
set_option maxHeartbeats 8000000 in
theorem finds_both (ao : Option Addr) (n c : Nat) (L : List Pc) (m : Int) (w : World) (hn : (n : Int) ≤ (5000 : Int)) (hl : Hid (L.length ≤ 5000)) (hr : Hid (Rdb w (.slice ao n c) L)) (h0 : 0 ≤ m) (h1 : m < (Tr.buildT (good L)).byt) (h2 : m < (Tr.buildT (good L)).lin) :
    Calls Try.prog 7 #[.slice ao n c, .int .i64 m] w fun e w' => e = .returned (.bool true) ∧ Below w.heap.size w w' := by
  have HF : Hid ((Tr.buildT (good L)).fine) := (buildT_fine (by have := hl.out; omega)).1
  generalize HT : Tr.buildT (good L) = T at *
  have HTT : Hid (Tr.buildT (good L) = T) := HT
  clear HT
  go_enter Try.func7, Try.ntmps7
  go_wp2_with (first | (go_at_call 9; refine (alive_any _).mono ?_; rintro e w1 ⟨rfl, hb1⟩)
                     | (go_at_call 14; refine (Build_any _ L _ (by have := hl.out; omega) (hr.out.keep hb1)).mono ?_; rw [HTT.out]; rintro e w2 ⟨a2, rfl, hat2, hb2⟩; (have L2 : Below w.heap.size w w2 := hb1.trans (hb2.mono hb1.size)); (have K2 : Hid (TB (w2.alloc (.cells #[.pointer a2] 26)) w2.heap.size T a2) := TB.new hat2); clear hat2)
                     | (go_at_call 33; refine (Find52_yes T a2 m _ h0 h1 HF K2.out.2).mono ?_; rintro e w3 ⟨jb, xb, rfl, hh3, hb3⟩; obtain ⟨⟨ps, po, pl, pn⟩, g1, g2, g3, g4, g5⟩ := hitB HF.out hh3; (have G1 : Hid ((T.list[jb]? = some ⟨ps, po, pl, pn⟩) ∧ jb < T.size) := ⟨g1, g2⟩); clear g1 g2 hh3; (have L3 : Below w.heap.size w w3 := L2.trans ((bA hb3).mono L2.size)); (have K3 : Hid (TB w3 w2.heap.size T a2) := K2.out.keep hb3); (have t3 := K3.out.c); clear K2)
                     | (go_at_call 34; refine (Find53_yes T a2 m _ h0 h2 HF K3.out.2).mono ?_; rintro e w4 ⟨jl, xl, rfl, hh4, hb4⟩; obtain ⟨⟨qs, qo, ql, qn⟩, g6, g7, g8, g9, g10⟩ := hitL HF.out hh4; (have G2 : Hid ((T.list[jl]? = some ⟨qs, qo, ql, qn⟩) ∧ jl < T.size) := ⟨g6, g7⟩); clear g6 g7 hh4; (have L4 : Below w.heap.size w w4 := L3.trans (hb4.mono L3.size)); (have K4 : Hid (TB w4 w2.heap.size T a2) := K3.out.keep hb4); (have t4 := K4.out.c); (have t4a := alp t4); (have t4b := alp2 t4); clear K3)
                     | (go_at_call 18; refine (Bytes_any T a2 _ K4.out.2).mono ?_; rintro e w' ⟨rfl, rfl⟩)
                     | (go_at_call 19; refine (Lines_any T a2 _ (K4.out.2.alloc _)).mono ?_; rintro e w' ⟨rfl, rfl⟩)
                     | (go_at_call_of 35 (Value.int .i64 (jb : Int)); refine (Get_yes T a2 jb _ G1.out.2 HF.out.2 ((K4.out.2.alloc _).alloc _)).mono ?_; rintro e w5 ⟨s5, o5, n5, k5, hg5, rfl, hb5⟩; (have e5 : (⟨s5, o5, n5, k5⟩ : Pc) = ⟨ps, po, pl, pn⟩ := Option.some.inj (hg5.symm.trans G1.out.1)); (injection e5 with e51 e52 e53 e54); subst e51 e52 e53 e54; clear hg5; (have L5 : Below w.heap.size w w5 := (bAlloc (bAlloc L4 _) _).trans (hb5.mono (bAlloc (bAlloc L4 _) _).size)); (have K5 : Hid (TB w5 w2.heap.size T a2) := ((K4.out.alloc _).alloc _).keep hb5); (have t5 := K5.out.c); (have t5a := alp t5))
                     | (go_at_call_of 36 (Value.int .i64 (jb : Int)); refine (Before_yes T a2 jb _ (Nat.le_of_lt G1.out.2) HF (K5.out.2.alloc _)).mono ?_; rintro e w6 ⟨rfl, hb6⟩; (have L6 : Below w.heap.size w w6 := (bAlloc L5 _).trans (hb6.mono (bAlloc L5 _).size)); (have K6 : Hid (TB w6 w2.heap.size T a2) := (K5.out.alloc _).keep hb6); (have t6 := K6.out.c); (obtain ⟨c6, f6⟩ := bcell hb6))
                     | (go_at_call_of 35 (Value.int .i64 (jl : Int)); refine (Get_yes T a2 jl _ G2.out.2 HF.out.2 K6.out.2).mono ?_; rintro e w7 ⟨s7, o7, n7, k7, hg7, rfl, hb7⟩; (have e7 : (⟨s7, o7, n7, k7⟩ : Pc) = ⟨qs, qo, ql, qn⟩ := Option.some.inj (hg7.symm.trans G2.out.1)); (injection e7 with e71 e72 e73 e74); subst e71 e72 e73 e74; clear hg7; (have L7 : Below w.heap.size w w7 := L6.trans (hb7.mono L6.size)); (have K7 : Hid (TB w7 w2.heap.size T a2) := K6.out.keep hb7); (have t7 := K7.out.c); (have t7a := alp t7))
                     | (go_at_call_of 36 (Value.int .i64 (jl : Int)); refine (Before_yes T a2 jl _ (Nat.le_of_lt G2.out.2) HF (K7.out.2.alloc _)).mono ?_; rintro e w8 ⟨rfl, hb8⟩; (have L8 : Below w.heap.size w w8 := (bAlloc L7 _).trans (hb8.mono (bAlloc L7 _).size)); (obtain ⟨c8, f8⟩ := bcell hb8)))
  go_ret
  exact ⟨rfl, L8⟩
end Go.Proofs.Ytcaegdfbbjfgpaa
