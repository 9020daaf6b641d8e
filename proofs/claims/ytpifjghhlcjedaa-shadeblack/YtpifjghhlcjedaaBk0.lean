/- The walk of one step of quoinlaw02.ShadeBlack whose kind is 0. -/
import Derived.Test.YtpifjghhlcjedaaBks
namespace Go.Proofs.Ytpifjghhlcjedaa
open Go.RowKit Go.Shelf
attribute [local go_sem] Oper.semAt_some

set_option maxRecDepth 100000 in
set_option maxHeartbeats 4000000 in
theorem kind0 (w W : World) (Es : List Ent) (st : Stp) (b7 b13 b14 gt gl m ct cl ka kb : Nat) (xa ya : Option Addr) (xc yc : Nat) (ea eb : Ent) (v0 v1 v2 v3 v6 v19 v20 v21 v22 v23 v24 v25 v26 v27 v28 v29 v30 v31 v32 v33 v34 v35 v36 v37 v38 v39 v40 v41 v42 v43 v44 v45 v46 v47 v48 v49 v50 v51 v52 v53 v54 v55 v56 v57 v58 v59 v60 v61 v62 v63 v64 v65 v66 v67 v68 v69 v70 v71 v72 v74 v75 v76 v77 v78 v79 v80 v81 v82 v83 v84 v85 v86 v87 v88 v89 v90 v91 v92 v93 v94 v95 v96 v97 v98 v99 v100 v101 v102 v103 v104 v105 v106 v107 v108 v109 v110 v111 v112 v113 v114 v115 v116 v117 v118 v119 v120 v121 v122 v123 v124 v125 v126 v127 v128 v129 v130 v131 v132 v133 v134 v135 v136 v137 v138 v139 v140 v141 v142 v143 v144 v145 v146 v147 v148 v149 v150 v151 v152 v153 v154 v155 v156 v157 v158 v159 v160 v161 v162 v163 v164 v165 v166 v167 v168 v169 v170 v171 v172 v173 v174 v175 v176 v177 v178 v179 v180 v181 v182 v183 v184 v185 v186 v187 v188 v189 v190 v191 v192 v193 v194 v195 v196 v197 v198 v199 v200 v201 v202 v203 v204 v205 v206 v207 v208 v209 v210 v211 v212 v213 v214 v215 v216 v217 v218 v219 v220 v221 v222 v223 v224 v225 v226 v227 v228 v229 v230 v231 v232 v233 v234 v235 v236 v237 v238 v239 v240 v241 v242 v243 v244 v245 v246 v247 v248 v249 v250 v251 v252 v253 v254 v255 v256 v257 v258 v259 v260 v261 v262 v263 v264 v265 v266 v267 v268 v269 v270 v271 v272 v273 v274 v275 v276 v277 v278 v279 v280 v281 v282 v283 v284 v285 v286 v287 v288 v289 v290 v291 v292 v293 v294 v295 v296 v297 v298 v299 v300 v301 v302 v303 v304 v305 v306 v307 v308 v309 v310 v311 v312 v313 v314 v315 v316 v317 v318 v319 v320 : Value) (Q : Exit → Act → World → Prop)
    (HS : Hid (Sst w W (.slice (some ⟨gt, 0, none⟩) m ct) (.slice (some ⟨gl, 0, none⟩) m cl) Es st b7 b13 b14 none none)) (HO : Hid (st.ok w)) (_hm : Hid (m = Es.length)) (_HEs : Hid (Es.length ≤ 1000000)) (ha : Hid (Es[ka]? = some ea)) (_hb : Hid (Es[kb]? = some eb)) (_hxa : Hid (ea.v = .slice xa ea.t.size xc)) (_hyb : Hid (eb.v = .slice ya eb.t.size yc)) (hsz : Hid (ea.t.size + eb.t.size + st.l.length ≤ 5000))
    (hQ : ∀ (x4 x5 x15 x16 x17 x18 x19 x74 x75 x76 x77 x78 x79 x80 x81 x82 x83 x84 x85 x86 x87 x88 x89 x90 x91 x92 x93 x94 x95 x96 x97 x98 x99 x100 x101 x102 x103 x104 x105 x106 x107 x108 x109 x110 x111 x112 x113 x114 x115 x116 x117 x118 x119 x120 x121 x122 x123 x124 x125 x126 x127 x128 x129 x130 x131 x132 x133 x134 x135 x136 x137 x138 x139 x140 x141 x142 x143 x144 x145 x146 x147 x148 x149 x150 x151 x152 x153 x154 x155 x156 x157 x158 x159 x160 x161 x162 x163 x164 x165 x166 x167 x168 x169 x170 x171 x172 x173 x174 x175 x176 x177 x178 x179 x180 x181 x182 x183 x184 x185 x186 x187 x188 x189 x190 x191 x192 x193 x194 x195 x196 x197 x198 x199 x200 x201 x202 x203 x204 x205 x206 x207 x208 x209 x210 x211 x212 x213 x214 x215 x216 x217 x218 x219 x220 x221 x222 x223 x224 x225 x226 x227 x228 x229 x230 x231 x232 x233 x234 x235 x236 x237 x238 x239 x240 x241 x242 x243 x244 x245 x246 x247 x248 x249 x250 x251 x252 x253 x254 x255 x256 x257 x258 x259 x260 x261 x262 x263 x264 x265 x266 x267 x268 x269 x270 x271 x272 x273 x274 x275 x276 x277 : Value) (W' : World), Left w Es st b7 b13 b14 x4 x5 x15 x16 x18 W' → Q .normal ⟨#[v0, v1, v2, v3, x4, x5, v6, .pointer (some ⟨b7, 0, none⟩), .int .i64 (ka : Nat), .int .i64 (kb : Nat), .slice xa ea.t.size xc, .slice ya eb.t.size yc, .bool (fitB st.p.l st.p.n), .pointer (some ⟨b13, 0, none⟩), .pointer (some ⟨b14, 0, none⟩), x15, x16, x17, x18, x19, v20, v21, v22, v23, v24, v25, v26, v27, v28, v29, v30, v31, v32, v33, v34, v35, v36, v37, v38, v39, v40, v41, v42, v43, v44, v45, v46, v47, v48, v49, v50, v51, v52, v53, v54, v55, v56, v57, v58, v59, v60, v61, v62, v63, v64, v65, v66, v67, v68, v69, v70, v71, v72, .int .i64 0, x74, x75, x76, x77, x78, x79, x80, x81, x82, x83, x84, x85, x86, x87, x88, x89, x90, x91, x92, x93, x94, x95, x96, x97, x98, x99, x100, x101, x102, x103, x104, x105, x106, x107, x108, x109, x110, x111, x112, x113, x114, x115, x116, x117, x118, x119, x120, x121, x122, x123, x124, x125, x126, x127, x128, x129, x130, x131, x132, x133, x134, x135, x136, x137, x138, x139, x140, x141, x142, x143, x144, x145, x146, x147, x148, x149, x150, x151, x152, x153, x154, x155, x156, x157, x158, x159, x160, x161, x162, x163, x164, x165, x166, x167, x168, x169, x170, x171, x172, x173, x174, x175, x176, x177, x178, x179, x180, x181, x182, x183, x184, x185, x186, x187, x188, x189, x190, x191, x192, x193, x194, x195, x196, x197, x198, x199, x200, x201, x202, x203, x204, x205, x206, x207, x208, x209, x210, x211, x212, x213, x214, x215, x216, x217, x218, x219, x220, x221, x222, x223, x224, x225, x226, x227, x228, x229, x230, x231, x232, x233, x234, x235, x236, x237, x238, x239, x240, x241, x242, x243, x244, x245, x246, x247, x248, x249, x250, x251, x252, x253, x254, x255, x256, x257, x258, x259, x260, x261, x262, x263, x264, x265, x266, x267, x268, x269, x270, x271, x272, x273, x274, x275, x276, x277, v278, v279, v280, v281, v282, v283, v284, v285, v286, v287, v288, v289, v290, v291, v292, v293, v294, v295, v296, v297, v298, v299, v300, v301, v302, v303, v304, v305, v306, v307, v308, v309, v310, v311, v312, v313, v314, v315, v316, v317, v318, v319, v320], []⟩ W') :
    Code.wp Try.prog (swC Try.f3) Q ⟨#[v0, v1, v2, v3, .slice (some ⟨gt, 0, none⟩) m ct, .slice (some ⟨gl, 0, none⟩) m cl, v6, .pointer (some ⟨b7, 0, none⟩), .int .i64 (ka : Nat), .int .i64 (kb : Nat), .slice xa ea.t.size xc, .slice ya eb.t.size yc, .bool (fitB st.p.l st.p.n), .pointer (some ⟨b13, 0, none⟩), .pointer (some ⟨b14, 0, none⟩), .int .i64 0, .slice none 0 0, .slice none 0 0, .bool true, v19, v20, v21, v22, v23, v24, v25, v26, v27, v28, v29, v30, v31, v32, v33, v34, v35, v36, v37, v38, v39, v40, v41, v42, v43, v44, v45, v46, v47, v48, v49, v50, v51, v52, v53, v54, v55, v56, v57, v58, v59, v60, v61, v62, v63, v64, v65, v66, v67, v68, v69, v70, v71, v72, .int .i64 0, v74, v75, v76, v77, v78, v79, v80, v81, v82, v83, v84, v85, v86, v87, v88, v89, v90, v91, v92, v93, v94, v95, v96, v97, v98, v99, v100, v101, v102, v103, v104, v105, v106, v107, v108, v109, v110, v111, v112, v113, v114, v115, v116, v117, v118, v119, v120, v121, v122, v123, v124, v125, v126, v127, v128, v129, v130, v131, v132, v133, v134, v135, v136, v137, v138, v139, v140, v141, v142, v143, v144, v145, v146, v147, v148, v149, v150, v151, v152, v153, v154, v155, v156, v157, v158, v159, v160, v161, v162, v163, v164, v165, v166, v167, v168, v169, v170, v171, v172, v173, v174, v175, v176, v177, v178, v179, v180, v181, v182, v183, v184, v185, v186, v187, v188, v189, v190, v191, v192, v193, v194, v195, v196, v197, v198, v199, v200, v201, v202, v203, v204, v205, v206, v207, v208, v209, v210, v211, v212, v213, v214, v215, v216, v217, v218, v219, v220, v221, v222, v223, v224, v225, v226, v227, v228, v229, v230, v231, v232, v233, v234, v235, v236, v237, v238, v239, v240, v241, v242, v243, v244, v245, v246, v247, v248, v249, v250, v251, v252, v253, v254, v255, v256, v257, v258, v259, v260, v261, v262, v263, v264, v265, v266, v267, v268, v269, v270, v271, v272, v273, v274, v275, v276, v277, v278, v279, v280, v281, v282, v283, v284, v285, v286, v287, v288, v289, v290, v291, v292, v293, v294, v295, v296, v297, v298, v299, v300, v301, v302, v303, v304, v305, v306, v307, v308, v309, v310, v311, v312, v313, v314, v315, v316, v317, v318, v319, v320], []⟩ W := by
  unfold swC stepC
  simp only [cL, cR, Try.f3, Option.getD]
  have HQ := hid hQ
  clear hQ
  obtain ⟨i0, hi, hz0, hz1, hz2⟩ := info_parts info32
  obtain ⟨sa, sn, sc, hsv⟩ := HO.out.2.2.2.2.1
  have HR := hid (HO.out.2.2.2.2.2.keep HS.out.bel)
  rw [hsv] at HR
  obtain ⟨ao, n', c', e1, hn', hc', hr'⟩ := HR.out
  obtain ⟨rfl, rfl, rfl⟩ : sa = ao ∧ sn = n' ∧ sc = c' := by simpa using e1
  subst hn'
  clear hr' e1
  have HL : st.l.length ≤ 5000 := by have := hsz.out; omega
  obtain ⟨-, -, -, -, -, -, s8⟩ := HS.out.steps
  rw [hsv] at s8
  go_wp2_with fail
  refine (Build_any _ st.l _ (by omega) HR).mono ?_
  rintro e W1 ⟨x, rfl, hT, hB1⟩
  have S1 := hid (HS.out.below hB1)
  obtain ⟨z13, f13⟩ := S1.out.box13
  have S2 := hid (S1.out.put13 x)
  have T2 := hid (S1.out.at13 x hT)
  clear s8 hT
  dsimp only
  go_wp2_with fail
  generalize W1.setCell ⟨b13, 0, none⟩ (.pointer x) = W2 at *
  clear z13 f13 S1 HR hB1
  go_loopw [16, 19] (fun g i wr => ∃ j : Nat, j ≤ st.l.length ∧ i = .int .i64 j ∧ wr.ownsRow W2.heap.size 32 4 g (good (st.l.take j)).length (cells (good (st.l.take j))) ∧ Below W2.heap.size W2 wr) (fun _ i _ => st.l.length - (intOf i).toNat)
  case atStart => exact ⟨0, Nat.zero_le _, rfl, World.ownsRow_nil _ _ _ _, Below.refl _ _⟩
  case round =>
    obtain ⟨j, hj, rfl, hown, hb9⟩ := hrel
    have HW := hid hown
    have HB := hid hb9
    clear hown hb9
    have S3 := hid (S2.out.below HB.out)
    obtain ⟨-, -, -, -, -, -, s8⟩ := S3.out.steps
    rw [hsv] at s8
    have HR3 := hid (HO.out.2.2.2.2.2.keep S3.out.bel)
    rw [hsv] at HR3
    by_cases hlt : j < st.l.length
    · obtain ⟨ao, n', c', e1, hn', -, hr'⟩ := HR3.out
      obtain ⟨rfl, -, rfl⟩ : sa = ao ∧ st.l.length = n' ∧ sc = c' := by simpa using e1
      rcases hr' with hn | ⟨b, off, rfl, hr⟩
      · rw [hn] at hlt; simp at hlt
      rcases hp : st.l[j]? with _ | ⟨s, o, n, k⟩
      · have := List.getElem?_eq_none_iff.1 hp; omega
      obtain ⟨r0, r1, r2, r3⟩ := row4 hr hp
      have hj0 : (0 : Int) ≤ (j : Int) := by omega
      have hjl : (j : Int) < (st.l.length : Int) := by omega
      have HG : Hid (good (st.l.take (j + 1)) = good (st.l.take j) ++ if fitB n k = true then [⟨s, o, n, k⟩] else []) := good_take hp
      have hgl : (good (st.l.take j)).length ≤ j := by have := good_le (st.l.take j); have := List.length_take_le j st.l; omega
      have l7 := cell_lt s8
      have l8 := cell_lt r0
      clear hr hp e1 hn' HR3
      cases hf : fitB n k with
      | false =>
        rw [hf] at HG
        go_wp2_with fail
        refine (refFit_any s o n k _).mono ?_
        rintro e w' ⟨rfl, rfl⟩
        rw [hf]
        dsimp only
        go_wp2
        go_roundw
        case rel => exact ⟨j + 1, by omega, by go_num, by rw [HG.out]; simpa using (HW.out.alloc _), bAlloc HB.out _⟩
        case measure => simp [intOf]; omega
      | true =>
        rw [hf] at HG
        obtain ⟨ax, cx, hu⟩ := own_shape HW.out
        subst hu
        go_wp2_with fail
        refine (refFit_any s o n k _).mono ?_
        rintro e w' ⟨rfl, rfl⟩
        rw [hf]
        dsimp only
        go_wp2_with (first | (at_builtin; refine Rk.append_srv rfl (.tmp 128) (.tmp 134) 33 rfl W2.heap.size 32 i0 (.agg #[.int .i64 0, .int .i64 0, .int .i64 0, .int .i64 0]) 4 32 Try.underlying33 hi hz0 hz1 hz2 rfl (by decide) (.slice ax (good (st.l.take j)).length cx) (good (st.l.take j)).length (cells (good (st.l.take j))) rfl ((HW.out.alloc _).alloc _) (.slice (some ⟨wr.heap.size + 1, 0, none⟩) 1 1) 1 [.int .i64 s, .int .i64 o, .int .i64 n, .int .i64 k] rfl (.inr ⟨_, 1, rfl, ?qd2⟩) rfl ?qd3 ?qd4 ?qd5 ?qd6 ?_))
        case qd2 => exact fun k' u hk => by have := lit_cells (wr.alloc (.cells #[.int .i64 s, .int .i64 o, .int .i64 n, .int .i64 k] 32)) #[.int .i64 s, .int .i64 o, .int .i64 n, .int .i64 k] 32 k' u hk; simpa using this
        case qd3 => intro u hu; simp at hu; rcases hu with rfl | rfl | rfl | rfl <;> rfl
        case qd4 => unfold maxLen; omega
        case qd5 => omega
        case qd6 => have := HB.out.size; simp at this ⊢; omega
        intro v' w2 hown hgrow _
        have HW2 : Hid (w2.ownsRow W2.heap.size 32 4 v' (good (st.l.take (j + 1))).length (cells (good (st.l.take (j + 1))))) := by
          unfold Hid
          rw [HG.out]
          simp only [if_true, List.length_append, cells_append]
          exact hown
        have HB2 : Hid (Below W2.heap.size W2 w2) := (bAlloc (bAlloc HB.out _) _).grown hgrow (by have := HB.out.size; simp at this ⊢; omega) (fun k hk => (HW.out.lt k hk).1)
        clear hown hgrow
        go_wp2
        go_roundw
        case rel => exact ⟨j + 1, by omega, by go_num, HW2.out, HB2.out⟩
        case measure => simp [intOf]; omega
    · obtain rfl : j = st.l.length := by omega
      rw [List.take_length] at HW
      go_wp2
      apply HQ.out
      refine ⟨Es, x, none, S3.out, ?_, by omega, .inl ⟨rfl, rfl, Tr.buildT (good st.l), ?_⟩⟩
      · have := (List.getElem?_eq_some_iff.1 ha.out).1; omega
      · obtain ⟨k1, k2⟩ := Tr.buildT_ok _ (good st.l) (Nat.le_refl _)
        have k3 := good_le st.l
        have k4 : (Tr.buildT (good st.l)).size = (good st.l).length := by rw [← Tr.size_list, k2]
        exact ⟨T2.out.keep HB.out, k1, by rw [Tr.fine_list, k2]; exact fineL_good (by omega), by omega, W2.heap.size, by rw [k2, k4]; exact HW.out⟩
end Go.Proofs.Ytpifjghhlcjedaa
