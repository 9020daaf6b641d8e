/- The walk of quoinlaw02.ShadeBlack. -/
import Derived.Test.YtpifjghhlcjedaaBstep
import Derived.Test.YtpifjghhlcjedaaOpen2
import Derived.Test.YtpifjghhlcjedaaOps2
import Derived.Test.YtpifjghhlcjedaaOps3
namespace Go.Proofs.Ytpifjghhlcjedaa
open Go.RowKit Go.Shelf
attribute [local go_sem] Oper.semAt_some

theorem nil_one (W : World) : One W (Tr.mk none) none (.slice none 0 0) :=
  ⟨rfl, ⟨trivial, rfl⟩, ⟨trivial, by simp [Tr.size]⟩, by simp [Tr.size], 0, ⟨rfl, .inl ⟨rfl, rfl⟩⟩⟩

set_option maxRecDepth 100000 in
set_option maxHeartbeats 4000000 in
theorem black_any' (ao : Option Addr) (n c : Nat) (S : List Stp) (w : World) (hn : Hid (n = S.length)) (hS : Hid (Rds w ao S)) (hSl : Hid (∀ st ∈ S, st.l.length ≤ 140737488355328)) :
    Calls Try.prog 3 #[.slice ao n c] w fun e w' => e = .returned (.bool true) ∧ Below w.heap.size w w' := by
  go_enter Try.func3, Try.ntmps3
  go_wp2_with fail
  refine (alive_any _).mono ?_
  rintro e w1 ⟨rfl, hb1⟩
  have W1 := hid hb1
  clear hb1
  go_wp2_with fail
  have hB0 : Bst w1 (((w1.alloc (.cells #[.pointer none] 26)).alloc (.cells #[.pointer none] 26)).alloc (.cells #[.slice none 0 0] 33)) (.slice (some ⟨w1.heap.size + 1, 0, none⟩) 1 1) (.slice (some ⟨w1.heap.size + 1 + 1, 0, none⟩) 1 1) [⟨Tr.mk none, none, .slice none 0 0⟩] := by
    refine ⟨?_, fun e he => ?_⟩
    · have k1 := bAlloc (Below.refl _ w1) (.cells #[.pointer none] 26)
      have k2 := bAlloc (Below.refl _ (w1.alloc (.cells #[.pointer none] 26))) (.cells #[.pointer none] 26)
      have k3 := bAlloc (Below.refl _ ((w1.alloc (.cells #[.pointer none] 26)).alloc (.cells #[.pointer none] 26))) (.cells #[.slice none 0 0] 33)
      have o1 : ((w1.alloc (.cells #[.pointer none] 26)).alloc (.cells #[.pointer none] 26)).ownsRow (w1.alloc (.cells #[.pointer none] 26)).heap.size 26 1 (.slice (some ⟨w1.heap.size + 1, 0, none⟩) 1 1) 1 [.pointer none] :=
        ⟨rfl, .inr ⟨w1.heap.size + 1, 1, #[.pointer none], rfl, by simp, by have := heap_alloc_new (w1.alloc (.cells #[.pointer none] 26)) (.cells #[.pointer none] 26); rwa [World.size_alloc] at this, Nat.le_refl _, by decide, rfl, rfl⟩⟩
      have o2 : (((w1.alloc (.cells #[.pointer none] 26)).alloc (.cells #[.pointer none] 26)).alloc (.cells #[.slice none 0 0] 33)).ownsRow ((w1.alloc (.cells #[.pointer none] 26)).alloc (.cells #[.pointer none] 26)).heap.size 33 1 (.slice (some ⟨w1.heap.size + 1 + 1, 0, none⟩) 1 1) 1 [.slice none 0 0] :=
        ⟨rfl, .inr ⟨w1.heap.size + 1 + 1, 1, #[.slice none 0 0], rfl, by simp, by have := heap_alloc_new ((w1.alloc (.cells #[.pointer none] 26)).alloc (.cells #[.pointer none] 26)) (.cells #[.slice none 0 0] 33); rwa [World.size_alloc, World.size_alloc] at this, Nat.le_refl _, by decide, rfl, rfl⟩⟩
      exact (((Rk.Rrs.nil w1).keep k1).new k2 o1).new k3 o2
    · simp at he
      subst he
      exact nil_one _
  have HB0 := hid hB0
  clear hB0
  go_loopw [4, 5, 6] (fun vt vl x wr => ∃ (i : Nat) (Es : List Ent), i ≤ n ∧ i ≤ 300 ∧ x = .int .i64 i ∧ 1 ≤ Es.length ∧ Es.length ≤ 1 + 2 * i ∧ Bst w1 wr vt vl Es) (fun _ _ x _ => 300 - (intOf x).toNat)
  case atStart => exact ⟨0, _, Nat.zero_le _, by omega, rfl, by simp, by simp, HB0.out⟩
  case round =>
    obtain ⟨i, Es, hi1, hi2, rfl, hE1, hE2, hB⟩ := hrel
    have BS := hid hB
    clear hB HB0
    obtain ⟨at_, ct, hvt⟩ := BS.out.shapeT
    obtain ⟨al, cl, hvl⟩ := BS.out.shapeL
    subst hvt
    subst hvl
    go_upto_region 7 with fail
    go_cut [33] from 26 to 32 (fun x wx => x = .bool (decide ((i : Int) < (n : Int) ∧ (i : Int) < 300)) ∧ wx = wr)
    case first =>
      by_cases h1 : (i : Int) < (n : Int)
      · by_cases h2 : (i : Int) < 300
        · go_wp2_with fail
          go_meet
          exact ⟨by rw [decide_eq_true ⟨h1, h2⟩], rfl⟩
        · go_wp2_with fail
          go_meet
          exact ⟨by rw [decide_eq_false (by omega)], rfl⟩
      · go_wp2_with fail
        go_meet
        exact ⟨by rw [decide_eq_false (by omega)], rfl⟩
    case rest =>
    obtain ⟨rfl, hwc⟩ := hcut
    subst hwc
    by_cases hlt : (i : Int) < (n : Int) ∧ (i : Int) < 300
    · rw [decide_eq_true hlt]
      obtain ⟨st, hst⟩ : ∃ st, S[i]? = some st := ⟨_, List.getElem?_eq_getElem (by have := hn.out; omega)⟩
      have HO1 : Hid (st.ok w1) := by
        rcases hS.out.below W1.out with h | ⟨_, _, _, h⟩
        · rw [h] at hst; simp at hst
        · exact (h i st hst).1
      have HLL : Hid (st.l.length ≤ 140737488355328) := hSl.out st (List.mem_of_getElem? hst)
      rcases hS.out.below (Rk.bT W1.out BS.out.rows.bel) with h | ⟨b, off, rfl, hR⟩
      · rw [h] at hst; simp at hst
      have HC := hid (hR i st hst).2
      have hi9 := hlt.1
      clear hR hst
      rename_i k1 k0 h1 h0
      refine h0 _ _ ?_
      refine wp_cond_true rfl ?_
      refine wp_skip ?_
      simp only [Exit.then]
      refine h1 _ _ ?_
      clear h0
      refine wp_seq_k fun k5 h5 => ?_
      refine step_any w1 _ Es st b off n c i ct cl at_ al _ _ _ _ _ _ _ _ _ _ _ _ _ _ _ _ _ _ _ _ _ _ _ _ _ _ _ _ _ _ _ _ _ _ _ _ _ _ _ _ _ _ _ _ _ _ _ _ _ _ _ _ _ _ _ _ _ _ _ _ _ _ _ _ _ _ _ _ _ _ _ _ _ _ _ _ _ _ _ _ _ _ _ _ _ _ _ _ _ _ _ _ _ _ _ _ _ _ _ _ _ _ _ _ _ _ _ _ _ _ _ _ _ _ _ _ _ _ _ _ _ _ _ _ _ _ _ _ _ _ _ _ _ _ _ _ _ _ _ _ _ _ _ _ _ _ _ _ _ _ _ _ _ _ _ _ _ _ _ _ _ _ _ _ _ _ _ _ _ _ _ _ _ _ _ _ _ _ _ _ _ _ _ _ _ _ _ _ _ _ _ _ _ _ _ _ _ _ _ _ _ _ _ _ _ _ _ _ _ _ _ _ _ _ _ _ _ _ _ _ _ _ _ _ _ _ _ _ _ _ _ _ _ _ _ _ _ _ _ _ _ _ _ _ _ _ _ _ _ _ _ _ _ _ _ _ _ _ _ _ _ _ _ _ _ _ _ _ _ _ _ _ _ _ _ _ _ _ _ _ _ _ _ _ _ _ _ _ _ _ _ _ _ _ _ _ _ _ _ _ _ _ _ _ _ _ _ _ _ _ _ _ _ _ _ _ _ _ BS HO1 hi9 HLL hE1 (by have := hE2; unfold Hid; omega) HC ?_
      intro x4 x5 x7 x8 x9 x10 x11 x12 x13 x14 x15 x16 x17 x18 x19 x36 x37 x38 x39 x40 x41 x42 x43 x44 x45 x46 x47 x48 x49 x50 x51 x52 x53 x54 x55 x56 x57 x58 x59 x60 x61 x62 x63 x64 x65 x66 x67 x68 x69 x70 x71 x72 x73 x74 x75 x76 x77 x78 x79 x80 x81 x82 x83 x84 x85 x86 x87 x88 x89 x90 x91 x92 x93 x94 x95 x96 x97 x98 x99 x100 x101 x102 x103 x104 x105 x106 x107 x108 x109 x110 x111 x112 x113 x114 x115 x116 x117 x118 x119 x120 x121 x122 x123 x124 x125 x126 x127 x128 x129 x130 x131 x132 x133 x134 x135 x136 x137 x138 x139 x140 x141 x142 x143 x144 x145 x146 x147 x148 x149 x150 x151 x152 x153 x154 x155 x156 x157 x158 x159 x160 x161 x162 x163 x164 x165 x166 x167 x168 x169 x170 x171 x172 x173 x174 x175 x176 x177 x178 x179 x180 x181 x182 x183 x184 x185 x186 x187 x188 x189 x190 x191 x192 x193 x194 x195 x196 x197 x198 x199 x200 x201 x202 x203 x204 x205 x206 x207 x208 x209 x210 x211 x212 x213 x214 x215 x216 x217 x218 x219 x220 x221 x222 x223 x224 x225 x226 x227 x228 x229 x230 x231 x232 x233 x234 x235 x236 x237 x238 x239 x240 x241 x242 x243 x244 x245 x246 x247 x248 x249 x250 x251 x252 x253 x254 x255 x256 x257 x258 x259 x260 x261 x262 x263 x264 x265 x266 x267 x268 x269 x270 x271 x272 x273 x274 x275 x276 x277 x278 x279 x280 x281 x282 x283 x284 x285 x286 x287 x288 x289 x290 x291 x292 x293 x294 x295 x296 x297 x298 x299 x300 x301 x302 x303 x304 W9 hP
      simp only [Exit.then]
      refine h5 _ _ ?_
      clear h5 h1
      obtain ⟨Es', hB', hl1, hl2⟩ := hP
      have BS' := hid hB'
      have hn300 : (i : Int) < 300 := hlt.2
      clear hB'
      go_wp2
      go_roundw
      case rel => exact ⟨i + 1, Es', by omega, by omega, by go_num, hl1, by omega, BS'.out⟩
      case measure => simp [intOf]; omega
    · rw [decide_eq_false hlt]
      go_wp2_with fail
      go_loopw [20] (fun x wr => ∃ j : Nat, j ≤ Es.length ∧ x = .int .i64 j ∧ Bst w1 wr (.slice at_ Es.length ct) (.slice al Es.length cl) Es) (fun x _ => Es.length - (intOf x).toNat)
      case atStart => exact ⟨0, Nat.zero_le _, rfl, BS.out⟩
      case round =>
        obtain ⟨j, hj, rfl, hB⟩ := hrel
        clear BS
        have BS := hid hB
        clear hB
        by_cases hlj : j < Es.length
        · obtain ⟨e, he⟩ : ∃ e, Es[j]? = some e := ⟨_, List.getElem?_eq_getElem hlj⟩
          obtain ⟨g, c1, g', c1', q1, q2, q3, q4, q5, q6⟩ := BS.out.at he
          simp only [Value.slice.injEq] at q1 q2
          obtain ⟨rfl, -, rfl⟩ := q1
          obtain ⟨rfl, -, rfl⟩ := q2
          obtain ⟨ao9, c9, hv9, -, -⟩ := q6.shape
          have O9 := hid q6
          have hj0 : (0 : Int) ≤ (j : Int) := by omega
          have hj1 : (j : Int) < (Es.length : Int) := by omega
          rw [hv9] at q5
          have HW : Hid (∀ W, Below wr.heap.size wr W → Calls Try.prog 20 #[.agg #[.pointer e.a], .slice ao9 e.t.size c9] W fun e w' => e = .returned (.bool true) ∧ Below W.heap.size W w') := fun W hW =>
            whole_any e.t e.a ao9 e.t.size c9 W O9.out.wh O9.out.fi O9.out.sz (O9.out.tree.keep hW) (by have := (O9.out.below hW).rdb; rw [hv9] at this; exact this)
          clear q6
          go_wp2_with fail
          go_region_held3 (fun w' => w'.cell? ⟨g, j, none⟩ = some (.pointer e.a) ∧ w'.cell? ⟨g', j, none⟩ = some (.slice ao9 e.t.size c9)) (first | assumption | simp [*, go_sem])
            (first | (go_at_call 20; refine (HW.out _ (Below.refl _ _).drew).mono ?_; rintro e4 w4 ⟨rfl, hb4⟩; have B4 := hid (bD2 hb4); clear hb4 q4 q5; have B5 := hid (BS.out.below B4.out); have q4 := B5.out.cellT he; have q5 := B5.out.cellL he; rw [hv9] at q5))
          clear q4 q5
          go_wp2
          go_roundw
          case rel => exact ⟨j + 1, by omega, by go_num, B5.out⟩
          case measure => simp [intOf]; omega
        · obtain rfl : j = Es.length := by omega
          go_wp2
          go_ret
          exact ⟨rfl, Rk.bT W1.out BS.out.rows.bel⟩
end Go.Proofs.Ytpifjghhlcjedaa
