/- The walk of one step of quoinlaw02.ShadeBlack whose kind is 5. -/
import Derived.Test.YtpifjghhlcjedaaBks
namespace Go.Proofs.Ytpifjghhlcjedaa
open Go.RowKit Go.Shelf
attribute [local go_sem] Oper.semAt_some

set_option maxRecDepth 100000 in
set_option maxHeartbeats 4000000 in
theorem kind5 (w W : World) (Es : List Ent) (st : Stp) (b7 b13 b14 gt gl m ct cl ka kb : Nat) (xa ya : Option Addr) (xc yc : Nat) (ea eb : Ent) (v0 v1 v2 v3 v6 v19 v20 v21 v22 v23 v24 v25 v26 v27 v28 v29 v30 v31 v32 v33 v34 v35 v36 v37 v38 v39 v40 v41 v42 v43 v44 v45 v46 v47 v48 v49 v50 v51 v52 v53 v54 v55 v56 v57 v58 v59 v60 v61 v62 v63 v64 v65 v66 v67 v68 v69 v70 v71 v72 v74 v75 v76 v77 v78 v79 v80 v81 v82 v83 v84 v85 v86 v87 v88 v89 v90 v91 v92 v93 v94 v95 v96 v97 v98 v99 v100 v101 v102 v103 v104 v105 v106 v107 v108 v109 v110 v111 v112 v113 v114 v115 v116 v117 v118 v119 v120 v121 v122 v123 v124 v125 v126 v127 v128 v129 v130 v131 v132 v133 v134 v135 v136 v137 v138 v139 v140 v141 v142 v143 v144 v145 v146 v147 v148 v149 v150 v151 v152 v153 v154 v155 v156 v157 v158 v159 v160 v161 v162 v163 v164 v165 v166 v167 v168 v169 v170 v171 v172 v173 v174 v175 v176 v177 v178 v179 v180 v181 v182 v183 v184 v185 v186 v187 v188 v189 v190 v191 v192 v193 v194 v195 v196 v197 v198 v199 v200 v201 v202 v203 v204 v205 v206 v207 v208 v209 v210 v211 v212 v213 v214 v215 v216 v217 v218 v219 v220 v221 v222 v223 v224 v225 v226 v227 v228 v229 v230 v231 v232 v233 v234 v235 v236 v237 v238 v239 v240 v241 v242 v243 v244 v245 v246 v247 v248 v249 v250 v251 v252 v253 v254 v255 v256 v257 v258 v259 v260 v261 v262 v263 v264 v265 v266 v267 v268 v269 v270 v271 v272 v273 v274 v275 v276 v277 v278 v279 v280 v281 v282 v283 v284 v285 v286 v287 v288 v289 v290 v291 v292 v293 v294 v295 v296 v297 v298 v299 v300 v301 v302 v303 v304 v305 v306 v307 v308 v309 v310 v311 v312 v313 v314 v315 v316 v317 v318 v319 v320 : Value) (Q : Exit → Act → World → Prop)
    (HS : Hid (Sst w W (.slice (some ⟨gt, 0, none⟩) m ct) (.slice (some ⟨gl, 0, none⟩) m cl) Es st b7 b13 b14 none none)) (_HO : Hid (st.ok w)) (hm : Hid (m = Es.length)) (_HEs : Hid (Es.length ≤ 1000000)) (ha : Hid (Es[ka]? = some ea)) (_hb : Hid (Es[kb]? = some eb)) (hxa : Hid (ea.v = .slice xa ea.t.size xc)) (_hyb : Hid (eb.v = .slice ya eb.t.size yc)) (hsz : Hid (ea.t.size + eb.t.size + st.l.length ≤ 5000))
    (hQ : ∀ (x4 x5 x15 x16 x17 x18 x19 x74 x75 x76 x77 x78 x79 x80 x81 x82 x83 x84 x85 x86 x87 x88 x89 x90 x91 x92 x93 x94 x95 x96 x97 x98 x99 x100 x101 x102 x103 x104 x105 x106 x107 x108 x109 x110 x111 x112 x113 x114 x115 x116 x117 x118 x119 x120 x121 x122 x123 x124 x125 x126 x127 x128 x129 x130 x131 x132 x133 x134 x135 x136 x137 x138 x139 x140 x141 x142 x143 x144 x145 x146 x147 x148 x149 x150 x151 x152 x153 x154 x155 x156 x157 x158 x159 x160 x161 x162 x163 x164 x165 x166 x167 x168 x169 x170 x171 x172 x173 x174 x175 x176 x177 x178 x179 x180 x181 x182 x183 x184 x185 x186 x187 x188 x189 x190 x191 x192 x193 x194 x195 x196 x197 x198 x199 x200 x201 x202 x203 x204 x205 x206 x207 x208 x209 x210 x211 x212 x213 x214 x215 x216 x217 x218 x219 x220 x221 x222 x223 x224 x225 x226 x227 x228 x229 x230 x231 x232 x233 x234 x235 x236 x237 x238 x239 x240 x241 x242 x243 x244 x245 x246 x247 x248 x249 x250 x251 x252 x253 x254 x255 x256 x257 x258 x259 x260 x261 x262 x263 x264 x265 x266 x267 x268 x269 x270 x271 x272 x273 x274 x275 x276 x277 : Value) (W' : World), Left w Es st b7 b13 b14 x4 x5 x15 x16 x18 W' → Q .normal ⟨#[v0, v1, v2, v3, x4, x5, v6, .pointer (some ⟨b7, 0, none⟩), .int .i64 (ka : Nat), .int .i64 (kb : Nat), .slice xa ea.t.size xc, .slice ya eb.t.size yc, .bool (fitB st.p.l st.p.n), .pointer (some ⟨b13, 0, none⟩), .pointer (some ⟨b14, 0, none⟩), x15, x16, x17, x18, x19, v20, v21, v22, v23, v24, v25, v26, v27, v28, v29, v30, v31, v32, v33, v34, v35, v36, v37, v38, v39, v40, v41, v42, v43, v44, v45, v46, v47, v48, v49, v50, v51, v52, v53, v54, v55, v56, v57, v58, v59, v60, v61, v62, v63, v64, v65, v66, v67, v68, v69, v70, v71, v72, .int .i64 5, x74, x75, x76, x77, x78, x79, x80, x81, x82, x83, x84, x85, x86, x87, x88, x89, x90, x91, x92, x93, x94, x95, x96, x97, x98, x99, x100, x101, x102, x103, x104, x105, x106, x107, x108, x109, x110, x111, x112, x113, x114, x115, x116, x117, x118, x119, x120, x121, x122, x123, x124, x125, x126, x127, x128, x129, x130, x131, x132, x133, x134, x135, x136, x137, x138, x139, x140, x141, x142, x143, x144, x145, x146, x147, x148, x149, x150, x151, x152, x153, x154, x155, x156, x157, x158, x159, x160, x161, x162, x163, x164, x165, x166, x167, x168, x169, x170, x171, x172, x173, x174, x175, x176, x177, x178, x179, x180, x181, x182, x183, x184, x185, x186, x187, x188, x189, x190, x191, x192, x193, x194, x195, x196, x197, x198, x199, x200, x201, x202, x203, x204, x205, x206, x207, x208, x209, x210, x211, x212, x213, x214, x215, x216, x217, x218, x219, x220, x221, x222, x223, x224, x225, x226, x227, x228, x229, x230, x231, x232, x233, x234, x235, x236, x237, x238, x239, x240, x241, x242, x243, x244, x245, x246, x247, x248, x249, x250, x251, x252, x253, x254, x255, x256, x257, x258, x259, x260, x261, x262, x263, x264, x265, x266, x267, x268, x269, x270, x271, x272, x273, x274, x275, x276, x277, v278, v279, v280, v281, v282, v283, v284, v285, v286, v287, v288, v289, v290, v291, v292, v293, v294, v295, v296, v297, v298, v299, v300, v301, v302, v303, v304, v305, v306, v307, v308, v309, v310, v311, v312, v313, v314, v315, v316, v317, v318, v319, v320], []⟩ W') :
    Code.wp Try.prog (swC Try.f3) Q ⟨#[v0, v1, v2, v3, .slice (some ⟨gt, 0, none⟩) m ct, .slice (some ⟨gl, 0, none⟩) m cl, v6, .pointer (some ⟨b7, 0, none⟩), .int .i64 (ka : Nat), .int .i64 (kb : Nat), .slice xa ea.t.size xc, .slice ya eb.t.size yc, .bool (fitB st.p.l st.p.n), .pointer (some ⟨b13, 0, none⟩), .pointer (some ⟨b14, 0, none⟩), .int .i64 0, .slice none 0 0, .slice none 0 0, .bool true, v19, v20, v21, v22, v23, v24, v25, v26, v27, v28, v29, v30, v31, v32, v33, v34, v35, v36, v37, v38, v39, v40, v41, v42, v43, v44, v45, v46, v47, v48, v49, v50, v51, v52, v53, v54, v55, v56, v57, v58, v59, v60, v61, v62, v63, v64, v65, v66, v67, v68, v69, v70, v71, v72, .int .i64 5, v74, v75, v76, v77, v78, v79, v80, v81, v82, v83, v84, v85, v86, v87, v88, v89, v90, v91, v92, v93, v94, v95, v96, v97, v98, v99, v100, v101, v102, v103, v104, v105, v106, v107, v108, v109, v110, v111, v112, v113, v114, v115, v116, v117, v118, v119, v120, v121, v122, v123, v124, v125, v126, v127, v128, v129, v130, v131, v132, v133, v134, v135, v136, v137, v138, v139, v140, v141, v142, v143, v144, v145, v146, v147, v148, v149, v150, v151, v152, v153, v154, v155, v156, v157, v158, v159, v160, v161, v162, v163, v164, v165, v166, v167, v168, v169, v170, v171, v172, v173, v174, v175, v176, v177, v178, v179, v180, v181, v182, v183, v184, v185, v186, v187, v188, v189, v190, v191, v192, v193, v194, v195, v196, v197, v198, v199, v200, v201, v202, v203, v204, v205, v206, v207, v208, v209, v210, v211, v212, v213, v214, v215, v216, v217, v218, v219, v220, v221, v222, v223, v224, v225, v226, v227, v228, v229, v230, v231, v232, v233, v234, v235, v236, v237, v238, v239, v240, v241, v242, v243, v244, v245, v246, v247, v248, v249, v250, v251, v252, v253, v254, v255, v256, v257, v258, v259, v260, v261, v262, v263, v264, v265, v266, v267, v268, v269, v270, v271, v272, v273, v274, v275, v276, v277, v278, v279, v280, v281, v282, v283, v284, v285, v286, v287, v288, v289, v290, v291, v292, v293, v294, v295, v296, v297, v298, v299, v300, v301, v302, v303, v304, v305, v306, v307, v308, v309, v310, v311, v312, v313, v314, v315, v316, v317, v318, v319, v320], []⟩ W := by
  unfold swC stepC
  simp only [cL, cR, Try.f3, Option.getD]
  have HQ := hid hQ
  clear hQ
  obtain ⟨i0, hi, hz0, hz1, hz2⟩ := info_parts info32
  have hka := ent_lt ha.out hm.out
  have hka0 : (0 : Int) ≤ (ka : Int) := by omega
  have OA := hid (HS.out.ent ha.out)
  have hE1 := (List.getElem?_eq_some_iff.1 ha.out).1
  have HE1 := hid hE1
  clear hE1
  have hsz' := hsz.out
  obtain ⟨-, hx0, hxn, -, hxc⟩ := OA.out.parts hxa.out
  have HX := hid (And.intro hx0 hxn)
  clear hx0 hxn
  have hnl := hid OA.out.len
  have SD := hid (HS.out.below (Below.refl _ _).drew)
  by_cases hin : 0 ≤ st.i ∧ st.i < (ea.t.size : Int)
  · cases hf : fitB st.p.l st.p.n with
    | true =>
    rw [hf] at HQ
    obtain ⟨k, hik⟩ : ∃ k : Nat, st.i = (k : Int) := ⟨st.i.toNat, by omega⟩
    have hk : k < ea.t.size := by omega
    clear hin
    obtain ⟨-, d3, d4, d5, d6, d7, -⟩ := SD.out.steps; rw [hik] at d3; have dt := SD.out.bst.cellT ha.out; have dS := (And.intro dt (And.intro d3 (And.intro d4 (And.intro d5 (And.intro d6 d7)))))
    go_wp2_with fail
    go_region_held3 (fun w' => w'.cell? ⟨gt, ka, none⟩ = some (.pointer ea.a) ∧ w'.cell? ⟨b7, 3, none⟩ = some (.int .i64 (k : Nat)) ∧ w'.cell? ⟨b7, 4, none⟩ = some (.int .i64 st.p.s) ∧ w'.cell? ⟨b7, 5, none⟩ = some (.int .i64 st.p.o) ∧ w'.cell? ⟨b7, 6, none⟩ = some (.int .i64 st.p.l) ∧ w'.cell? ⟨b7, 7, none⟩ = some (.int .i64 st.p.n)) (with_reducible assumption)
      (first | (go_at_call 18; refine (Set_yes ea.t ea.a k _ _ _ _ _ hk hf OA.out.fi (OA.out.below (Below.refl _ _).drew).tree).mono ?_; rintro e W1 ⟨x, rfl, hT, hB1⟩; have S1 := hid (SD.out.below hB1); obtain ⟨z13, f13⟩ := S1.out.box13; obtain ⟨-, p3, p4, p5, p6, p7, -⟩ := S1.out.steps; rw [hik] at p3; have pt := S1.out.bst.cellT ha.out; have pS := (And.intro pt (And.intro p3 (And.intro p4 (And.intro p5 (And.intro p6 p7))))); have S2 := hid (S1.out.put13 x); obtain ⟨-, r3, r4, r5, r6, r7, -⟩ := S2.out.steps; rw [hik] at r3; have rt := S2.out.bst.cellT ha.out; have rS := (And.intro rt (And.intro r3 (And.intro r4 (And.intro r5 (And.intro r6 r7))))); have T2 := hid (S1.out.at13 x hT); clear hT; dsimp only))
    clear d3 d4 d5 d6 d7 dt dS p3 p4 p5 p6 p7 pt pS z13 f13 S1 SD rt rS hB1
    generalize W1.setCell ⟨b13, 0, none⟩ (.pointer x) = W2 at *
    have hk0 : (0 : Int) ≤ (k : Int) := by omega
    have hk1 : (k : Int) < (ea.t.size : Int) := by omega
    have hxr := hid ((S2.out.ent ha.out).parts hxa.out).2.2.2.1
    go_wp2_with fail
    refine (cut14_all HX.out.1 HX.out.2 hxr.out (by omega) hnl.out).mono ?_
    rintro e W3 ⟨a3, c3, rfl, hO3, hB3⟩
    have O3 := hid hO3
    have B3 := hid hB3
    have S3 := hid (S2.out.below hB3)
    clear r3 r4 r5 r6 r7 hxr
    obtain ⟨-, r3, r4, r5, r6, r7, -⟩ := S3.out.steps; rw [hik] at r3; have rS := (And.intro r3 (And.intro r4 (And.intro r5 (And.intro r6 r7))))
    have hg3 : ∃ g, a3 = some ⟨g, 0, none⟩ := by
      rcases hO3.2 with ⟨_, h0⟩ | ⟨g, cap, cur, e1, _⟩
      · omega
      · simp at e1; exact ⟨g, e1.1⟩
    obtain ⟨g3, rfl⟩ := hg3
    obtain ⟨z0, k0⟩ := own_at4 hO3 hk 0 (by omega)
    obtain ⟨z1, k1⟩ := own_at4 hO3 hk 1 (by omega)
    obtain ⟨z2, k2⟩ := own_at4 hO3 hk 2 (by omega)
    obtain ⟨z3, k3⟩ := own_at4 hO3 hk 3 (by omega)
    rw [Nat.add_zero] at k0
    have y0 := hO3.frozenAt (k * 4)
    have y1 := hO3.frozenAt (k * 4 + 1)
    have y2 := hO3.frozenAt (k * 4 + 2)
    have y3 := hO3.frozenAt (k * 4 + 3)
    have R4 := own_store4 hO3 hB3 k st.p
    have RR4 := hid R4
    clear hO3 hB3 R4
    dsimp only
    go_wp2
    apply HQ.out
    refine ⟨Es, x, none, S2.out.below RR4.out.2, by have := HE1.out; omega, by omega, .inl ⟨rfl, rfl, ea.t.setT k st.p, one_mk (T2.out.keep RR4.out.2) (setT_whole OA.out.wh k st.p) (setT_list ea.t k st.p) ?_ ?_ ?_ RR4.out.1⟩⟩
    · intro p hp
      rcases List.mem_or_eq_of_mem_set hp with h1 | rfl
      · exact OA.out.fits p h1
      · exact (fitB_iff _ _ _ _).1 hf
    · have := hnl.out; rw [List.length_set]; omega
    · have := hnl.out; rw [List.length_set]; omega
    | false =>
    rw [hf] at HQ
    have hd : decide (0 ≤ st.i ∧ st.i < (ea.t.size : Int)) = true := decide_eq_true hin
    have h0 := hin.1
    have h1 := hin.2
    obtain ⟨-, d3, d4, d5, d6, d7, -⟩ := SD.out.steps; have dt := SD.out.bst.cellT ha.out; have dS := (And.intro dt (And.intro d3 (And.intro d4 (And.intro d5 (And.intro d6 d7)))))
    go_wp2_with fail
    go_region_held3 (fun w' => w'.cell? ⟨gt, ka, none⟩ = some (.pointer ea.a) ∧ w'.cell? ⟨b7, 3, none⟩ = some (.int .i64 st.i) ∧ w'.cell? ⟨b7, 4, none⟩ = some (.int .i64 st.p.s) ∧ w'.cell? ⟨b7, 5, none⟩ = some (.int .i64 st.p.o) ∧ w'.cell? ⟨b7, 6, none⟩ = some (.int .i64 st.p.l) ∧ w'.cell? ⟨b7, 7, none⟩ = some (.int .i64 st.p.n)) (with_reducible assumption)
      (first | (go_at_call 18; refine (Set_arg ea.t ea.a st.i _ _ _ _ _ hd hf (OA.out.below (Below.refl _ _).drew).tree).mono ?_; rintro e W1 ⟨rfl, hB1⟩; have S1 := hid (SD.out.below hB1); obtain ⟨z13, f13⟩ := S1.out.box13; obtain ⟨-, p3, p4, p5, p6, p7, -⟩ := S1.out.steps; have pt := S1.out.bst.cellT ha.out; have pS := (And.intro pt (And.intro p3 (And.intro p4 (And.intro p5 (And.intro p6 p7))))); have S2 := hid (S1.out.put13 none); obtain ⟨-, r3, r4, r5, r6, r7, -⟩ := S2.out.steps; have rt := S2.out.bst.cellT ha.out; have rS := (And.intro rt (And.intro r3 (And.intro r4 (And.intro r5 (And.intro r6 r7))))); dsimp only))
    clear d3 d4 d5 d6 d7 dt dS p3 p4 p5 p6 p7 pt pS z13 f13 S1 SD rt rS r4 r5 r6 r7 hB1
    generalize W1.setCell ⟨b13, 0, none⟩ (.pointer none) = W3 at *
    clear hin hd
    go_wp2
    apply HQ.out
    exact ⟨Es, none, none, S2.out, by have := HE1.out; omega, by omega, .inr ⟨rfl, ⟨2, by decide, rfl⟩, rfl, rfl⟩⟩
  · have hd : decide (0 ≤ st.i ∧ st.i < (ea.t.size : Int)) = false := decide_eq_false hin
    obtain ⟨-, d3, d4, d5, d6, d7, -⟩ := SD.out.steps; have dt := SD.out.bst.cellT ha.out; have dS := (And.intro dt (And.intro d3 (And.intro d4 (And.intro d5 (And.intro d6 d7)))))
    go_wp2_with fail
    go_region_held3 (fun w' => w'.cell? ⟨gt, ka, none⟩ = some (.pointer ea.a) ∧ w'.cell? ⟨b7, 3, none⟩ = some (.int .i64 st.i) ∧ w'.cell? ⟨b7, 4, none⟩ = some (.int .i64 st.p.s) ∧ w'.cell? ⟨b7, 5, none⟩ = some (.int .i64 st.p.o) ∧ w'.cell? ⟨b7, 6, none⟩ = some (.int .i64 st.p.l) ∧ w'.cell? ⟨b7, 7, none⟩ = some (.int .i64 st.p.n)) (with_reducible assumption)
      (first | (go_at_call 18; refine (Set_place ea.t ea.a st.i _ _ _ _ _ hd (OA.out.below (Below.refl _ _).drew).tree).mono ?_; rintro e W1 ⟨rfl, hB1⟩; have S1 := hid (SD.out.below hB1); obtain ⟨z13, f13⟩ := S1.out.box13; obtain ⟨-, p3, p4, p5, p6, p7, -⟩ := S1.out.steps; have pt := S1.out.bst.cellT ha.out; have pS := (And.intro pt (And.intro p3 (And.intro p4 (And.intro p5 (And.intro p6 p7))))); have S2 := hid (S1.out.put13 none); obtain ⟨-, r3, r4, r5, r6, r7, -⟩ := S2.out.steps; have rt := S2.out.bst.cellT ha.out; have rS := (And.intro rt (And.intro r3 (And.intro r4 (And.intro r5 (And.intro r6 r7))))); dsimp only))
    clear d3 d4 d5 d6 d7 dt dS p3 p4 p5 p6 p7 pt pS z13 f13 S1 SD rt rS r4 r5 r6 r7 hB1
    generalize W1.setCell ⟨b13, 0, none⟩ (.pointer none) = W3 at *
    by_cases h0 : 0 ≤ st.i
    · have h1 : ¬ st.i < (ea.t.size : Int) := fun h => hin ⟨h0, h⟩
      clear hin hd
      go_wp2
      apply HQ.out
      exact ⟨Es, none, none, S2.out, by have := HE1.out; omega, by omega, .inr ⟨rfl, ⟨20, by decide, rfl⟩, rfl, rfl⟩⟩
    · clear hin hd
      go_wp2
      apply HQ.out
      exact ⟨Es, none, none, S2.out, by have := HE1.out; omega, by omega, .inr ⟨rfl, ⟨20, by decide, rfl⟩, rfl, rfl⟩⟩
end Go.Proofs.Ytpifjghhlcjedaa
