/- The end of one step of quoinlaw02.ShadeBlack: behind the switch. -/
import Derived.Test.YtpifjghhlcjedaaBk2
namespace Go.Proofs.Ytpifjghhlcjedaa
open Go.RowKit Go.Shelf
attribute [local go_sem] Oper.semAt_some

/-- what lies behind the switch -/
def tailC (f : Func) : Code := cR (cR (cR (cR (cR (cR (cR (cR (cR (cR (stepC f))))))))))

set_option maxRecDepth 100000 in
set_option maxHeartbeats 4000000 in
theorem tail_any (w W : World) (Es : List Ent) (st : Stp) (b7 b13 b14 : Nat) (v0 v1 v2 v3 v4 v5 v6 v7 v8 v9 v10 v11 v12 v15 v16 v17 v18 v19 v20 v21 v22 v23 v24 v25 v26 v27 v28 v29 v30 v31 v32 v33 v34 v35 v36 v37 v38 v39 v40 v41 v42 v43 v44 v45 v46 v47 v48 v49 v50 v51 v52 v53 v54 v55 v56 v57 v58 v59 v60 v61 v62 v63 v64 v65 v66 v67 v68 v69 v70 v71 v72 v73 v74 v75 v76 v77 v78 v79 v80 v81 v82 v83 v84 v85 v86 v87 v88 v89 v90 v91 v92 v93 v94 v95 v96 v97 v98 v99 v100 v101 v102 v103 v104 v105 v106 v107 v108 v109 v110 v111 v112 v113 v114 v115 v116 v117 v118 v119 v120 v121 v122 v123 v124 v125 v126 v127 v128 v129 v130 v131 v132 v133 v134 v135 v136 v137 v138 v139 v140 v141 v142 v143 v144 v145 v146 v147 v148 v149 v150 v151 v152 v153 v154 v155 v156 v157 v158 v159 v160 v161 v162 v163 v164 v165 v166 v167 v168 v169 v170 v171 v172 v173 v174 v175 v176 v177 v178 v179 v180 v181 v182 v183 v184 v185 v186 v187 v188 v189 v190 v191 v192 v193 v194 v195 v196 v197 v198 v199 v200 v201 v202 v203 v204 v205 v206 v207 v208 v209 v210 v211 v212 v213 v214 v215 v216 v217 v218 v219 v220 v221 v222 v223 v224 v225 v226 v227 v228 v229 v230 v231 v232 v233 v234 v235 v236 v237 v238 v239 v240 v241 v242 v243 v244 v245 v246 v247 v248 v249 v250 v251 v252 v253 v254 v255 v256 v257 v258 v259 v260 v261 v262 v263 v264 v265 v266 v267 v268 v269 v270 v271 v272 v273 v274 v275 v276 v277 v278 v279 v280 v281 v282 v283 v284 v285 v286 v287 v288 v289 v290 v291 v292 v293 v294 v295 v296 v297 v298 v299 v300 v301 v302 v303 v304 v305 v306 v307 v308 v309 v310 v311 v312 v313 v314 v315 v316 v317 v318 v319 v320 : Value) (Q : Exit → Act → World → Prop)
    (HL : Hid (Left w Es st b7 b13 b14 v4 v5 v15 v16 v18 W)) (HEs : Hid (Es.length ≤ 1000))
    (hQ : ∀ (x4 x5 x278 x279 x280 x281 x282 x283 x284 x285 x286 x287 x288 x289 x290 x291 x292 x293 x294 x295 x296 x297 x298 x299 x300 x301 x302 x303 x304 : Value) (W' : World), (∃ Es', Bst w W' x4 x5 Es' ∧ 1 ≤ Es'.length ∧ Es'.length ≤ Es.length + 2) → Q .normal ⟨#[v0, v1, v2, v3, x4, x5, v6, v7, v8, v9, v10, v11, v12, .pointer (some ⟨b13, 0, none⟩), .pointer (some ⟨b14, 0, none⟩), v15, v16, v17, v18, v19, v20, v21, v22, v23, v24, v25, v26, v27, v28, v29, v30, v31, v32, v33, v34, v35, v36, v37, v38, v39, v40, v41, v42, v43, v44, v45, v46, v47, v48, v49, v50, v51, v52, v53, v54, v55, v56, v57, v58, v59, v60, v61, v62, v63, v64, v65, v66, v67, v68, v69, v70, v71, v72, v73, v74, v75, v76, v77, v78, v79, v80, v81, v82, v83, v84, v85, v86, v87, v88, v89, v90, v91, v92, v93, v94, v95, v96, v97, v98, v99, v100, v101, v102, v103, v104, v105, v106, v107, v108, v109, v110, v111, v112, v113, v114, v115, v116, v117, v118, v119, v120, v121, v122, v123, v124, v125, v126, v127, v128, v129, v130, v131, v132, v133, v134, v135, v136, v137, v138, v139, v140, v141, v142, v143, v144, v145, v146, v147, v148, v149, v150, v151, v152, v153, v154, v155, v156, v157, v158, v159, v160, v161, v162, v163, v164, v165, v166, v167, v168, v169, v170, v171, v172, v173, v174, v175, v176, v177, v178, v179, v180, v181, v182, v183, v184, v185, v186, v187, v188, v189, v190, v191, v192, v193, v194, v195, v196, v197, v198, v199, v200, v201, v202, v203, v204, v205, v206, v207, v208, v209, v210, v211, v212, v213, v214, v215, v216, v217, v218, v219, v220, v221, v222, v223, v224, v225, v226, v227, v228, v229, v230, v231, v232, v233, v234, v235, v236, v237, v238, v239, v240, v241, v242, v243, v244, v245, v246, v247, v248, v249, v250, v251, v252, v253, v254, v255, v256, v257, v258, v259, v260, v261, v262, v263, v264, v265, v266, v267, v268, v269, v270, v271, v272, v273, v274, v275, v276, v277, x278, x279, x280, x281, x282, x283, x284, x285, x286, x287, x288, x289, x290, x291, x292, x293, x294, x295, x296, x297, x298, x299, x300, x301, x302, x303, x304, v305, v306, v307, v308, v309, v310, v311, v312, v313, v314, v315, v316, v317, v318, v319, v320], []⟩ W') :
    Code.wp Try.prog (tailC Try.f3) Q ⟨#[v0, v1, v2, v3, v4, v5, v6, v7, v8, v9, v10, v11, v12, .pointer (some ⟨b13, 0, none⟩), .pointer (some ⟨b14, 0, none⟩), v15, v16, v17, v18, v19, v20, v21, v22, v23, v24, v25, v26, v27, v28, v29, v30, v31, v32, v33, v34, v35, v36, v37, v38, v39, v40, v41, v42, v43, v44, v45, v46, v47, v48, v49, v50, v51, v52, v53, v54, v55, v56, v57, v58, v59, v60, v61, v62, v63, v64, v65, v66, v67, v68, v69, v70, v71, v72, v73, v74, v75, v76, v77, v78, v79, v80, v81, v82, v83, v84, v85, v86, v87, v88, v89, v90, v91, v92, v93, v94, v95, v96, v97, v98, v99, v100, v101, v102, v103, v104, v105, v106, v107, v108, v109, v110, v111, v112, v113, v114, v115, v116, v117, v118, v119, v120, v121, v122, v123, v124, v125, v126, v127, v128, v129, v130, v131, v132, v133, v134, v135, v136, v137, v138, v139, v140, v141, v142, v143, v144, v145, v146, v147, v148, v149, v150, v151, v152, v153, v154, v155, v156, v157, v158, v159, v160, v161, v162, v163, v164, v165, v166, v167, v168, v169, v170, v171, v172, v173, v174, v175, v176, v177, v178, v179, v180, v181, v182, v183, v184, v185, v186, v187, v188, v189, v190, v191, v192, v193, v194, v195, v196, v197, v198, v199, v200, v201, v202, v203, v204, v205, v206, v207, v208, v209, v210, v211, v212, v213, v214, v215, v216, v217, v218, v219, v220, v221, v222, v223, v224, v225, v226, v227, v228, v229, v230, v231, v232, v233, v234, v235, v236, v237, v238, v239, v240, v241, v242, v243, v244, v245, v246, v247, v248, v249, v250, v251, v252, v253, v254, v255, v256, v257, v258, v259, v260, v261, v262, v263, v264, v265, v266, v267, v268, v269, v270, v271, v272, v273, v274, v275, v276, v277, v278, v279, v280, v281, v282, v283, v284, v285, v286, v287, v288, v289, v290, v291, v292, v293, v294, v295, v296, v297, v298, v299, v300, v301, v302, v303, v304, v305, v306, v307, v308, v309, v310, v311, v312, v313, v314, v315, v316, v317, v318, v319, v320], []⟩ W := by
  unfold tailC stepC
  simp only [cL, cR, Try.f3, Option.getD]
  have HQ := hid hQ
  clear hQ
  obtain ⟨i26, hi26, hz26, hs26, hb26⟩ := info_parts info26
  obtain ⟨i33, hi33, hz33, hs33, hb33⟩ := info_parts info33
  obtain ⟨Es', x13, x14, hS, hl1, hl2, hcase⟩ := HL.out
  have S5 := hid hS
  have HL1 := hid hl1
  have HL2 := hid hl2
  clear hS hl1 hl2 HL
  rcases hcase with ⟨rfl, rfl, T, hOne⟩ | ⟨rfl, ⟨e, he, rfl⟩, rfl, rfl⟩
  · have ONE := hid hOne
    obtain ⟨z13, f13⟩ := S5.out.box13
    obtain ⟨a16, c16, hv16, -, -⟩ := hOne.shape
    subst hv16
    clear hOne f13
    have S5' := hid (S5.out.below (bAlloc (Below.refl _ _) (.cells #[.pointer x13] 26)))
    have HBS := hid S5.out.bel.size
    obtain ⟨a4, c4, hv4⟩ := S5.out.bst.shapeT
    obtain ⟨a5, c5, hv5⟩ := S5.out.bst.shapeL
    subst hv4
    subst hv5
    go_wp2_with (at_builtin; refine Rk.append_srv rfl (.tmp 297) (.tmp 299) 27 rfl w.heap.size 26 i26 (.agg #[.pointer none]) 1 8 Try.underlying27 hi26 hz26 hs26 hb26 rfl (by decide) (.slice a4 Es'.length c4) Es'.length (Es'.map (fun e => .pointer e.a)) rfl (S5'.out.rows.own 0 _ rfl) (.slice (some ⟨W.heap.size, 0, none⟩) 1 1) 1 [.pointer x13] rfl (.inr ⟨⟨W.heap.size, 0, none⟩, 1, rfl, fun j t hj => lit_cells W _ 26 j t hj⟩) rfl ?q1 ?q2 ?q3 ?q4 ?_)
    case q1 => first | (intro u hu; simp at hu; subst hu; rfl) | rfl
    case q2 => have := HEs.out; have := HL2.out; unfold maxLen; omega
    case q3 => have := HEs.out; have := HL2.out; omega
    case q4 => have := HBS.out; simp; omega
    intro v6 W6 hO6 hG6 hF6'
    have hF6 : v6.ownBlock = (Value.slice a4 Es'.length c4).ownBlock ∨ ∃ q, v6.ownBlock = some q ∧ (W.alloc (.cells #[.pointer x13] 26)).heap.size ≤ q := by rcases hF6' with e | ⟨q, e, hq⟩; exact .inl e; exact .inr ⟨q, e, by simpa using hq⟩
    clear hF6'
    have R6 := hid (S5'.out.rows.grow (i := 0) rfl hG6 hO6 hF6)
    have O6 := hid hO6
    have G6 := hid hG6
    have F6 := hid hF6
    obtain ⟨a6, c6, e6⟩ := own_shape hO6
    subst e6
    clear hO6 hG6 hF6 z13
    have HBS6 := hid R6.out.bel.size
    go_wp2_with (at_builtin; refine Rk.append_srv rfl (.tmp 301) (.tmp 303) 28 rfl w.heap.size 33 i33 (.slice none 0 0) 1 24 Try.underlying28 hi33 hz33 hs33 hb33 rfl (by decide) (.slice a5 Es'.length c5) Es'.length (Es'.map (fun e => e.v)) rfl ((R6.out.own 1 _ rfl).alloc _) (.slice (some ⟨W6.heap.size, 0, none⟩) 1 1) 1 [.slice a16 T.size c16] rfl (.inr ⟨⟨W6.heap.size, 0, none⟩, 1, rfl, fun j t hj => lit_cells W6 _ 33 j t hj⟩) rfl ?q1 ?q2 ?q3 ?q4 ?_)
    case q1 => first | (intro u hu; simp at hu; subst hu; rfl) | rfl
    case q2 => have := HEs.out; have := HL2.out; unfold maxLen; omega
    case q3 => have := HEs.out; have := HL2.out; omega
    case q4 => have := HBS6.out; simp; omega
    intro v7 W7 hO7 hG7 hF7'
    have hF7 : v7.ownBlock = (Value.slice a5 Es'.length c5).ownBlock ∨ ∃ q, v7.ownBlock = some q ∧ (W6.alloc (.cells #[.slice a16 T.size c16] 33)).heap.size ≤ q := by rcases hF7' with e | ⟨q, e, hq⟩; exact .inl e; exact .inr ⟨q, e, by simpa using hq⟩
    clear hF7'
    obtain ⟨S7, K7⟩ := S5'.out.push (e := ⟨T, x13, .slice a16 T.size c16⟩) (ONE.out.below (bAlloc (Below.refl _ _) _)) G6.out O6.out F6.out (bAlloc (Below.refl _ _) _) hG7 hO7 hF7
    have SS7 := hid S7
    clear hO7 hG7 hF7 S7 K7
    go_wp2
    apply HQ.out
    exact ⟨_, SS7.out.bst, by simp, by have := HL2.out; simp; omega⟩
  · have he1 : (e == 0) = false := by rw [beq_eq_false_iff_ne]; exact he
    obtain ⟨z13, -⟩ := S5.out.box13
    go_wp2_with fail
    refine (Len_any (Tr.mk none) none _ rfl).mono ?_
    rintro e' W1 ⟨rfl, rfl⟩
    have S6 := hid (S5.out.below (bAlloc (Below.refl _ _) (.cells #[.pointer none] 26)))
    obtain ⟨z14, -⟩ := S6.out.box14
    clear z13
    dsimp only
    go_wp2_with fail
    refine (Len_any (Tr.mk none) none _ rfl).mono ?_
    rintro e' W1 ⟨rfl, rfl⟩
    dsimp only
    go_wp2
    apply HQ.out
    exact ⟨Es', (S6.out.below (bAlloc (Below.refl _ _) _)).bst, HL1.out, by have := HL2.out; omega⟩
end Go.Proofs.Ytpifjghhlcjedaa
