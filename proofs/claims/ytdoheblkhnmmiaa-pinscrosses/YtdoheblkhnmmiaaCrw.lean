/- PinsCrosses, walked. -/
import Derived.Test.YtdoheblkhnmmiaaMvw
namespace Go.Proofs.Ytdoheblkhnmmiaa
open Go.RowKit

set_option maxRecDepth 8000
theorem yi24o {ops : Array Oper} {S : World → Prop} {op : Oper} {a : Act} {B o : Nat} (p m q : List Int) (hw : Region.wanted op (yielded ops a.tmps) = true) (x : Operand) (ho : op.op = .load 24 x) (hx : a.eval x = .pointer (some ⟨B, o, none⟩)) (hp : p.length = o) (hm : m.length = 27) (hS : ∀ w, S w → Blk w B 48 (mk (p ++ m ++ q))) : YieldsIf Try.prog ops S op (.agg (mk m)) a :=
  yieldsIf_load_mid hw 24 x ho B o hx (ml m) _ (fun w9 hw => by have := blk_range (pre := ml p) (mid := ml m) (post := ml q) (by simpa [mk, ml_append] using hS w9 hw); rwa [ml_len, hp] at this) Try.underlying24 rfl (by rw [info24, ml_len, hm])
set_option maxHeartbeats 8000000 in
set_option linter.unusedSimpArgs false in
theorem pinsCrosses_walk (A C M : List Int) (ao : Option Addr) (n c : Nat) (E : List Er) (w : World) (hA : A.length = 27) (hC : C.length = 27) (hM : M.length = 27) (HE : Hid (Edz w ao E)) (hn : E.length = n) (hb : n ≤ 140737488351232) :
    Calls Try.prog 5 #[.agg (mk (A ++ C ++ M)), .slice ao n c] w fun e w' => e = .returned (.bool true) ∧ Below w.heap.size w w' := by
  have HN := Hid.mk' hn
  obtain ⟨Q3, hQ3⟩ : ∃ Q3, Q3 = mk (A ++ C ++ M) := ⟨_, rfl⟩
  rw [← hQ3]
  generalize hW1 : w.alloc (.cells Q3 48) = W1
  have B1 : Hid (Blk W1 w.heap.size 48 (mk (A ++ C ++ M))) := by subst hW1; rw [← hQ3]; exact Blk.new w 48 _
  have L1 : Hid (Below w.heap.size w W1) := by subst hW1; exact bAlloc (Below.refl _ _) _
  have CA := Hid.mk' (awake_any W1)
  clear hn hQ3
  go_enter Try.func5, Try.ntmps5
  go_upto_region 1 with fail
  clear hW1
  go_wp2_with fail
  refine CA.out.mono ?_
  rintro e w1 ⟨rfl, hb1⟩
  have B2 := Hid.mk' (B1.out.keep hb1)
  have L2 := Hid.mk' (bT L1.out hb1)
  clear hb1 CA B1 L1
  go_wp2_with fail
  refine (great_any ao n c E w1 (HE.out.keep L2.out) HN.out (by omega)).mono ?_
  rintro e w2 ⟨gb, rfl, hgs, hb2⟩
  have B3 := Hid.mk' (B2.out.keep hb2)
  have L3 := Hid.mk' (bT L2.out hb2)
  clear hb2 B2 L2
  cases gb with
  | true =>
    clear hgs
    go_wp2
    go_ret
    exact ⟨rfl, L3.out⟩
  | false =>
  have HGS := Hid.mk' (hgs rfl)
  clear hgs
  go_wp2_with fail
  refine (copied_any ao n c E w2 (HE.out.keep L3.out) HN.out HGS.out).mono ?_
  rintro e w4 ⟨g, B, F, rfl, hF, hrow, hcp, hb4⟩
  have HC : Hid (Cps w2 w4 g B n E F) := ⟨hF, hrow, hcp, hb4⟩
  have B4 := Hid.mk' (B3.out.keep hb4)
  have L4 := Hid.mk' (bT L3.out hb4)
  have HE2 := Hid.mk' (HE.out.keep L3.out)
  have HT : Hid (F.map Er.t = E.map Er.t) := hcp.triples (by rw [hF, HN.out])
  clear hF hrow hcp hb4 B3 L3
  have CM := Hid.mk' (fun W (h : Cps w2 W g B n E F) => HT.out ▸ cross_any A C M (some ⟨g, 0, none⟩) n (n + 1) F W hA hC hM h.row.edr h.len (by omega))
  have CN := Hid.mk' (fun W (h : Below w.heap.size w W) => rcross_any A C M ao n c E W hA hC hM (HE.out.row.keep h) HN.out (by omega))
  have CK := Hid.mk' (fun W (h : Cps w2 W g B n E F) => kept_any w2 ao n c g B E F W HE2.out h HN.out HGS.out)
  have hml := crL_len A C M (mvL A (E.map Er.t)) 27
  have hee := fun W => eq24 W (crL A C M (mvL A (E.map Er.t)) 27) hml
  generalize crL A C M (mvL A (E.map Er.t)) 27 = Mv at *
  go_upto_region 6 with fail
  have KD : Hid (Blk w4.drew w.heap.size 48 (mk (A ++ C ++ M))) := B4.out
  have PD := Hid.mk' (HC.out.keep (Below.refl _ w4).drew)
  have LD : Hid (Below w.heap.size w w4.drew) := L4.out.drew
  clear B4 HC L4
  refine wp_region_held (S := fun w' => Blk w' w.heap.size 48 (mk (A ++ C ++ M))) (by kernel_rfl) ?_
  change wpAnyH _ _ _ _ _ _ _ _ (World.drew _)
  generalize w4.drew = V3 at *
  refine wpAnyH_take (i := 0) (v := .pointer (some ⟨w.heap.size, 0, none⟩)) rfl (by kernel_rfl) (by kernel_rfl) (by kernel_rfl) (fun _ _ _ h => h) (Yields.yieldsIf (Or.inl ⟨by rfl, fun w => by go_simp⟩)) KD.out ?_
  try simp only [Act.put, List.getElem_toArray, List.getElem_cons_zero, List.getElem_cons_succ, List.setIfInBounds_toArray, List.set_cons_zero, List.set_cons_succ]
  refine wpAnyH_take (i := 1) (v := .agg (mk A)) rfl (by kernel_rfl) (by kernel_rfl) (by kernel_rfl) (fun _ _ _ h => h) (yi24o [] A (C ++ M) rfl (.tmp 12) rfl rfl rfl hA (fun _ h => by have := h; rwa [List.append_assoc] at this)) KD.out ?_
  try simp only [Act.put, List.getElem_toArray, List.getElem_cons_zero, List.getElem_cons_succ, List.setIfInBounds_toArray, List.set_cons_zero, List.set_cons_succ]
  refine wpAnyH_take (i := 2) (v := .pointer (some ⟨w.heap.size, 27, none⟩)) rfl (by kernel_rfl) (by kernel_rfl) (by kernel_rfl) (fun _ _ _ h => h) (Yields.yieldsIf (Or.inl ⟨by rfl, fun w => by go_simp⟩)) KD.out ?_
  try simp only [Act.put, List.getElem_toArray, List.getElem_cons_zero, List.getElem_cons_succ, List.setIfInBounds_toArray, List.set_cons_zero, List.set_cons_succ]
  refine wpAnyH_take (i := 3) (v := .agg (mk C)) rfl (by kernel_rfl) (by kernel_rfl) (by kernel_rfl) (fun _ _ _ h => h) (yi24o A C M rfl (.tmp 14) rfl rfl hA hC (fun _ h => h)) KD.out ?_
  try simp only [Act.put, List.getElem_toArray, List.getElem_cons_zero, List.getElem_cons_succ, List.setIfInBounds_toArray, List.set_cons_zero, List.set_cons_succ]
  refine wpAnyH_take (i := 4) (v := .pointer (some ⟨w.heap.size, 54, none⟩)) rfl (by kernel_rfl) (by kernel_rfl) (by kernel_rfl) (fun _ _ _ h => h) (Yields.yieldsIf (Or.inl ⟨by rfl, fun w => by go_simp⟩)) KD.out ?_
  try simp only [Act.put, List.getElem_toArray, List.getElem_cons_zero, List.getElem_cons_succ, List.setIfInBounds_toArray, List.set_cons_zero, List.set_cons_succ]
  refine wpAnyH_take (i := 5) (v := .agg (mk M)) rfl (by kernel_rfl) (by kernel_rfl) (by kernel_rfl) (fun _ _ _ h => h) (yi24o (A ++ C) M [] rfl (.tmp 16) rfl rfl (by rw [List.length_append, hA, hC]) hM (fun _ h => by rw [List.append_nil]; exact h)) KD.out ?_
  try simp only [Act.put, List.getElem_toArray, List.getElem_cons_zero, List.getElem_cons_succ, List.setIfInBounds_toArray, List.set_cons_zero, List.set_cons_succ]
  refine wpAnyH_take (i := 6) (v := .slice (some ⟨g, 0, none⟩) n (n + 1)) rfl (by kernel_rfl) (by kernel_rfl) (by kernel_rfl) (fun _ _ _ h => h) (Yields.yieldsIf (Or.inl ⟨by rfl, fun w => by go_simp⟩)) KD.out ?_
  try simp only [Act.put, List.getElem_toArray, List.getElem_cons_zero, List.getElem_cons_succ, List.setIfInBounds_toArray, List.set_cons_zero, List.set_cons_succ]
  refine wpAnyH_take (i := 8) (v := .pointer (some ⟨w.heap.size, 0, none⟩)) rfl (by kernel_rfl) (by kernel_rfl) (by kernel_rfl) (fun _ _ _ h => h) (Yields.yieldsIf (Or.inl ⟨by rfl, fun w => by go_simp⟩)) KD.out ?_
  try simp only [Act.put, List.getElem_toArray, List.getElem_cons_zero, List.getElem_cons_succ, List.setIfInBounds_toArray, List.set_cons_zero, List.set_cons_succ]
  refine wpAnyH_take (i := 9) (v := .agg (mk A)) rfl (by kernel_rfl) (by kernel_rfl) (by kernel_rfl) (fun _ _ _ h => h) (yi24o [] A (C ++ M) rfl (.tmp 20) rfl rfl rfl hA (fun _ h => by have := h; rwa [List.append_assoc] at this)) KD.out ?_
  try simp only [Act.put, List.getElem_toArray, List.getElem_cons_zero, List.getElem_cons_succ, List.setIfInBounds_toArray, List.set_cons_zero, List.set_cons_succ]
  refine wpAnyH_take (i := 10) (v := .pointer (some ⟨w.heap.size, 27, none⟩)) rfl (by kernel_rfl) (by kernel_rfl) (by kernel_rfl) (fun _ _ _ h => h) (Yields.yieldsIf (Or.inl ⟨by rfl, fun w => by go_simp⟩)) KD.out ?_
  try simp only [Act.put, List.getElem_toArray, List.getElem_cons_zero, List.getElem_cons_succ, List.setIfInBounds_toArray, List.set_cons_zero, List.set_cons_succ]
  refine wpAnyH_take (i := 11) (v := .agg (mk C)) rfl (by kernel_rfl) (by kernel_rfl) (by kernel_rfl) (fun _ _ _ h => h) (yi24o A C M rfl (.tmp 22) rfl rfl hA hC (fun _ h => h)) KD.out ?_
  try simp only [Act.put, List.getElem_toArray, List.getElem_cons_zero, List.getElem_cons_succ, List.setIfInBounds_toArray, List.set_cons_zero, List.set_cons_succ]
  refine wpAnyH_take (i := 12) (v := .pointer (some ⟨w.heap.size, 54, none⟩)) rfl (by kernel_rfl) (by kernel_rfl) (by kernel_rfl) (fun _ _ _ h => h) (Yields.yieldsIf (Or.inl ⟨by rfl, fun w => by go_simp⟩)) KD.out ?_
  try simp only [Act.put, List.getElem_toArray, List.getElem_cons_zero, List.getElem_cons_succ, List.setIfInBounds_toArray, List.set_cons_zero, List.set_cons_succ]
  refine wpAnyH_take (i := 13) (v := .agg (mk M)) rfl (by kernel_rfl) (by kernel_rfl) (by kernel_rfl) (fun _ _ _ h => h) (yi24o (A ++ C) M [] rfl (.tmp 24) rfl rfl (by rw [List.length_append, hA, hC]) hM (fun _ h => by rw [List.append_nil]; exact h)) KD.out ?_
  try simp only [Act.put, List.getElem_toArray, List.getElem_cons_zero, List.getElem_cons_succ, List.setIfInBounds_toArray, List.set_cons_zero, List.set_cons_succ]
  refine wpAnyH_take (i := 14) (v := .slice ao n c) rfl (by kernel_rfl) (by kernel_rfl) (by kernel_rfl) (fun _ _ _ h => h) (Yields.yieldsIf (Or.inl ⟨by rfl, fun w => by go_simp⟩)) KD.out ?_
  try simp only [Act.put, List.getElem_toArray, List.getElem_cons_zero, List.getElem_cons_succ, List.setIfInBounds_toArray, List.set_cons_zero, List.set_cons_succ]
  refine wpAnyH_all (rs := [7]) (by kernel_rfl) (by simp) (AllH.cons rfl (fun K hK => ?_) AllH.nil)
  go_simp
  refine (CM.out V3 PD.out).mono ?_
  rintro e w7 ⟨rfl, hb9⟩
  have K7 := Hid.mk' (KD.out.keep hb9)
  have P7 := Hid.mk' (PD.out.keep hb9)
  have L7 := Hid.mk' (bT LD.out hb9)
  clear hb9
  dsimp only
  refine hK _ _ ⟨K7.out, ?_⟩
  clear hK K
  try simp only [Act.put, List.getElem_toArray, List.getElem_cons_zero, List.getElem_cons_succ, List.setIfInBounds_toArray, List.set_cons_zero, List.set_cons_succ]
  refine wpAnyH_all (rs := [15]) (by kernel_rfl) (by simp) (AllH.cons rfl (fun K hK => ?_) AllH.nil)
  go_simp
  refine (CN.out w7 L7.out).mono ?_
  rintro e w8 ⟨rfl, hb9⟩
  have K8 := Hid.mk' (K7.out.keep hb9)
  have P8 := Hid.mk' (P7.out.keep hb9)
  have L8 := Hid.mk' (bT L7.out hb9)
  clear hb9
  dsimp only
  refine hK _ _ ⟨K8.out, ?_⟩
  clear hK K
  try simp only [Act.put, List.getElem_toArray, List.getElem_cons_zero, List.getElem_cons_succ, List.setIfInBounds_toArray, List.set_cons_zero, List.set_cons_succ]
  refine wpAnyH_take (i := 16) (v := .bool true) rfl (by kernel_rfl) (by kernel_rfl) (by kernel_rfl) (fun _ _ _ h => h) (Yields.yieldsIf (Or.inl ⟨by rfl, fun w => by go_simp⟩)) K8.out ?_
  try simp only [Act.put, List.getElem_toArray, List.getElem_cons_zero, List.getElem_cons_succ, List.setIfInBounds_toArray, List.set_cons_zero, List.set_cons_succ]
  refine wpAnyH_take (i := 17) (v := .bool true) rfl (by kernel_rfl) (by kernel_rfl) (by kernel_rfl) (fun _ _ _ h => h) (Yields.yieldsIf (Or.inl ⟨by rfl, fun w => by go_simp⟩)) K8.out ?_
  try simp only [Act.put, List.getElem_toArray, List.getElem_cons_zero, List.getElem_cons_succ, List.setIfInBounds_toArray, List.set_cons_zero, List.set_cons_succ]
  refine wpAnyH_take (i := 18) (v := .slice (some ⟨g, 0, none⟩) n (n + 1)) rfl (by kernel_rfl) (by kernel_rfl) (by kernel_rfl) (fun _ _ _ h => h) (Yields.yieldsIf (Or.inl ⟨by rfl, fun w => by go_simp⟩)) K8.out ?_
  try simp only [Act.put, List.getElem_toArray, List.getElem_cons_zero, List.getElem_cons_succ, List.setIfInBounds_toArray, List.set_cons_zero, List.set_cons_succ]
  refine wpAnyH_take (i := 19) (v := .slice ao n c) rfl (by kernel_rfl) (by kernel_rfl) (by kernel_rfl) (fun _ _ _ h => h) (Yields.yieldsIf (Or.inl ⟨by rfl, fun w => by go_simp⟩)) K8.out ?_
  try simp only [Act.put, List.getElem_toArray, List.getElem_cons_zero, List.getElem_cons_succ, List.setIfInBounds_toArray, List.set_cons_zero, List.set_cons_succ]
  refine wpAnyH_all (rs := [20]) (by kernel_rfl) (by simp) (AllH.cons rfl (fun K hK => ?_) AllH.nil)
  go_simp
  refine (CK.out w8 P8.out).mono ?_
  rintro e w9 ⟨rfl, hb9⟩
  have K9 := Hid.mk' (K8.out.keep hb9)
  have L9 := Hid.mk' (bT L8.out hb9)
  clear hb9
  dsimp only
  refine hK _ _ ⟨K9.out, ?_⟩
  clear hK K
  try simp only [Act.put, List.getElem_toArray, List.getElem_cons_zero, List.getElem_cons_succ, List.setIfInBounds_toArray, List.set_cons_zero, List.set_cons_succ]
  refine wpAnyH_take (i := 21) (v := .bool true) rfl (by kernel_rfl) (by kernel_rfl) (by kernel_rfl) (fun _ _ _ h => h) (Yields.yieldsIf (Or.inl ⟨by rfl, fun w => by go_simp⟩)) K9.out ?_
  try simp only [Act.put, List.getElem_toArray, List.getElem_cons_zero, List.getElem_cons_succ, List.setIfInBounds_toArray, List.set_cons_zero, List.set_cons_succ]
  refine wpAnyH_take (i := 22) (v := .bool true) rfl (by kernel_rfl) (by kernel_rfl) (by kernel_rfl) (fun _ _ _ h => h) (Yields.yieldsIf (Or.inl ⟨by rfl, fun w => by go_simp⟩)) K9.out ?_
  try simp only [Act.put, List.getElem_toArray, List.getElem_cons_zero, List.getElem_cons_succ, List.setIfInBounds_toArray, List.set_cons_zero, List.set_cons_succ]
  refine wpAnyH_done (by kernel_rfl) ?_ _
  go_wp2
  go_ret
  exact ⟨rfl, L9.out⟩
end Go.Proofs.Ytdoheblkhnmmiaa
