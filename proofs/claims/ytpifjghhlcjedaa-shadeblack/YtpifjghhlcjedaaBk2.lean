/- The walk of one step of quoinlaw02.ShadeBlack whose kind is 2. -/
import Derived.Test.YtpifjghhlcjedaaBks
namespace Go.Proofs.Ytpifjghhlcjedaa
open Go.RowKit Go.Shelf
attribute [local go_sem] Oper.semAt_some

theorem info26 : (Try.prog.info? 26).map (fun i => (i.zero, i.size, i.bytes)) = some (some (.agg #[.pointer none]), 1, 8) := by kernel_rfl
theorem info33 : (Try.prog.info? 33).map (fun i => (i.zero, i.size, i.bytes)) = some (some (.slice none 0 0), 1, 24) := by kernel_rfl

set_option maxRecDepth 100000 in
set_option maxHeartbeats 4000000 in
theorem kind2 (w W : World) (Es : List Ent) (st : Stp) (b7 b13 b14 gt gl m ct cl ka kb : Nat) (xa ya : Option Addr) (xc yc : Nat) (ea eb : Ent) (v0 v1 v2 v3 v6 v19 v20 v21 v22 v23 v24 v25 v26 v27 v28 v29 v30 v31 v32 v33 v34 v35 v36 v37 v38 v39 v40 v41 v42 v43 v44 v45 v46 v47 v48 v49 v50 v51 v52 v53 v54 v55 v56 v57 v58 v59 v60 v61 v62 v63 v64 v65 v66 v67 v68 v69 v70 v71 v72 v74 v75 v76 v77 v78 v79 v80 v81 v82 v83 v84 v85 v86 v87 v88 v89 v90 v91 v92 v93 v94 v95 v96 v97 v98 v99 v100 v101 v102 v103 v104 v105 v106 v107 v108 v109 v110 v111 v112 v113 v114 v115 v116 v117 v118 v119 v120 v121 v122 v123 v124 v125 v126 v127 v128 v129 v130 v131 v132 v133 v134 v135 v136 v137 v138 v139 v140 v141 v142 v143 v144 v145 v146 v147 v148 v149 v150 v151 v152 v153 v154 v155 v156 v157 v158 v159 v160 v161 v162 v163 v164 v165 v166 v167 v168 v169 v170 v171 v172 v173 v174 v175 v176 v177 v178 v179 v180 v181 v182 v183 v184 v185 v186 v187 v188 v189 v190 v191 v192 v193 v194 v195 v196 v197 v198 v199 v200 v201 v202 v203 v204 v205 v206 v207 v208 v209 v210 v211 v212 v213 v214 v215 v216 v217 v218 v219 v220 v221 v222 v223 v224 v225 v226 v227 v228 v229 v230 v231 v232 v233 v234 v235 v236 v237 v238 v239 v240 v241 v242 v243 v244 v245 v246 v247 v248 v249 v250 v251 v252 v253 v254 v255 v256 v257 v258 v259 v260 v261 v262 v263 v264 v265 v266 v267 v268 v269 v270 v271 v272 v273 v274 v275 v276 v277 v278 v279 v280 v281 v282 v283 v284 v285 v286 v287 v288 v289 v290 v291 v292 v293 v294 v295 v296 v297 v298 v299 v300 v301 v302 v303 v304 v305 v306 v307 v308 v309 v310 v311 v312 v313 v314 v315 v316 v317 v318 v319 v320 : Value) (Q : Exit → Act → World → Prop)
    (HS : Hid (Sst w W (.slice (some ⟨gt, 0, none⟩) m ct) (.slice (some ⟨gl, 0, none⟩) m cl) Es st b7 b13 b14 none none)) (_HO : Hid (st.ok w)) (hm : Hid (m = Es.length)) (HEs : Hid (Es.length ≤ 1000000)) (ha : Hid (Es[ka]? = some ea)) (_hb : Hid (Es[kb]? = some eb)) (hxa : Hid (ea.v = .slice xa ea.t.size xc)) (_hyb : Hid (eb.v = .slice ya eb.t.size yc)) (hsz : Hid (ea.t.size + eb.t.size + st.l.length ≤ 5000))
    (hQ : ∀ (x4 x5 x15 x16 x17 x18 x19 x74 x75 x76 x77 x78 x79 x80 x81 x82 x83 x84 x85 x86 x87 x88 x89 x90 x91 x92 x93 x94 x95 x96 x97 x98 x99 x100 x101 x102 x103 x104 x105 x106 x107 x108 x109 x110 x111 x112 x113 x114 x115 x116 x117 x118 x119 x120 x121 x122 x123 x124 x125 x126 x127 x128 x129 x130 x131 x132 x133 x134 x135 x136 x137 x138 x139 x140 x141 x142 x143 x144 x145 x146 x147 x148 x149 x150 x151 x152 x153 x154 x155 x156 x157 x158 x159 x160 x161 x162 x163 x164 x165 x166 x167 x168 x169 x170 x171 x172 x173 x174 x175 x176 x177 x178 x179 x180 x181 x182 x183 x184 x185 x186 x187 x188 x189 x190 x191 x192 x193 x194 x195 x196 x197 x198 x199 x200 x201 x202 x203 x204 x205 x206 x207 x208 x209 x210 x211 x212 x213 x214 x215 x216 x217 x218 x219 x220 x221 x222 x223 x224 x225 x226 x227 x228 x229 x230 x231 x232 x233 x234 x235 x236 x237 x238 x239 x240 x241 x242 x243 x244 x245 x246 x247 x248 x249 x250 x251 x252 x253 x254 x255 x256 x257 x258 x259 x260 x261 x262 x263 x264 x265 x266 x267 x268 x269 x270 x271 x272 x273 x274 x275 x276 x277 : Value) (W' : World), Left w Es st b7 b13 b14 x4 x5 x15 x16 x18 W' → Q .normal ⟨#[v0, v1, v2, v3, x4, x5, v6, .pointer (some ⟨b7, 0, none⟩), .int .i64 (ka : Nat), .int .i64 (kb : Nat), .slice xa ea.t.size xc, .slice ya eb.t.size yc, .bool (fitB st.p.l st.p.n), .pointer (some ⟨b13, 0, none⟩), .pointer (some ⟨b14, 0, none⟩), x15, x16, x17, x18, x19, v20, v21, v22, v23, v24, v25, v26, v27, v28, v29, v30, v31, v32, v33, v34, v35, v36, v37, v38, v39, v40, v41, v42, v43, v44, v45, v46, v47, v48, v49, v50, v51, v52, v53, v54, v55, v56, v57, v58, v59, v60, v61, v62, v63, v64, v65, v66, v67, v68, v69, v70, v71, v72, .int .i64 2, x74, x75, x76, x77, x78, x79, x80, x81, x82, x83, x84, x85, x86, x87, x88, x89, x90, x91, x92, x93, x94, x95, x96, x97, x98, x99, x100, x101, x102, x103, x104, x105, x106, x107, x108, x109, x110, x111, x112, x113, x114, x115, x116, x117, x118, x119, x120, x121, x122, x123, x124, x125, x126, x127, x128, x129, x130, x131, x132, x133, x134, x135, x136, x137, x138, x139, x140, x141, x142, x143, x144, x145, x146, x147, x148, x149, x150, x151, x152, x153, x154, x155, x156, x157, x158, x159, x160, x161, x162, x163, x164, x165, x166, x167, x168, x169, x170, x171, x172, x173, x174, x175, x176, x177, x178, x179, x180, x181, x182, x183, x184, x185, x186, x187, x188, x189, x190, x191, x192, x193, x194, x195, x196, x197, x198, x199, x200, x201, x202, x203, x204, x205, x206, x207, x208, x209, x210, x211, x212, x213, x214, x215, x216, x217, x218, x219, x220, x221, x222, x223, x224, x225, x226, x227, x228, x229, x230, x231, x232, x233, x234, x235, x236, x237, x238, x239, x240, x241, x242, x243, x244, x245, x246, x247, x248, x249, x250, x251, x252, x253, x254, x255, x256, x257, x258, x259, x260, x261, x262, x263, x264, x265, x266, x267, x268, x269, x270, x271, x272, x273, x274, x275, x276, x277, v278, v279, v280, v281, v282, v283, v284, v285, v286, v287, v288, v289, v290, v291, v292, v293, v294, v295, v296, v297, v298, v299, v300, v301, v302, v303, v304, v305, v306, v307, v308, v309, v310, v311, v312, v313, v314, v315, v316, v317, v318, v319, v320], []⟩ W') :
    Code.wp Try.prog (swC Try.f3) Q ⟨#[v0, v1, v2, v3, .slice (some ⟨gt, 0, none⟩) m ct, .slice (some ⟨gl, 0, none⟩) m cl, v6, .pointer (some ⟨b7, 0, none⟩), .int .i64 (ka : Nat), .int .i64 (kb : Nat), .slice xa ea.t.size xc, .slice ya eb.t.size yc, .bool (fitB st.p.l st.p.n), .pointer (some ⟨b13, 0, none⟩), .pointer (some ⟨b14, 0, none⟩), .int .i64 0, .slice none 0 0, .slice none 0 0, .bool true, v19, v20, v21, v22, v23, v24, v25, v26, v27, v28, v29, v30, v31, v32, v33, v34, v35, v36, v37, v38, v39, v40, v41, v42, v43, v44, v45, v46, v47, v48, v49, v50, v51, v52, v53, v54, v55, v56, v57, v58, v59, v60, v61, v62, v63, v64, v65, v66, v67, v68, v69, v70, v71, v72, .int .i64 2, v74, v75, v76, v77, v78, v79, v80, v81, v82, v83, v84, v85, v86, v87, v88, v89, v90, v91, v92, v93, v94, v95, v96, v97, v98, v99, v100, v101, v102, v103, v104, v105, v106, v107, v108, v109, v110, v111, v112, v113, v114, v115, v116, v117, v118, v119, v120, v121, v122, v123, v124, v125, v126, v127, v128, v129, v130, v131, v132, v133, v134, v135, v136, v137, v138, v139, v140, v141, v142, v143, v144, v145, v146, v147, v148, v149, v150, v151, v152, v153, v154, v155, v156, v157, v158, v159, v160, v161, v162, v163, v164, v165, v166, v167, v168, v169, v170, v171, v172, v173, v174, v175, v176, v177, v178, v179, v180, v181, v182, v183, v184, v185, v186, v187, v188, v189, v190, v191, v192, v193, v194, v195, v196, v197, v198, v199, v200, v201, v202, v203, v204, v205, v206, v207, v208, v209, v210, v211, v212, v213, v214, v215, v216, v217, v218, v219, v220, v221, v222, v223, v224, v225, v226, v227, v228, v229, v230, v231, v232, v233, v234, v235, v236, v237, v238, v239, v240, v241, v242, v243, v244, v245, v246, v247, v248, v249, v250, v251, v252, v253, v254, v255, v256, v257, v258, v259, v260, v261, v262, v263, v264, v265, v266, v267, v268, v269, v270, v271, v272, v273, v274, v275, v276, v277, v278, v279, v280, v281, v282, v283, v284, v285, v286, v287, v288, v289, v290, v291, v292, v293, v294, v295, v296, v297, v298, v299, v300, v301, v302, v303, v304, v305, v306, v307, v308, v309, v310, v311, v312, v313, v314, v315, v316, v317, v318, v319, v320], []⟩ W := by
  unfold swC stepC
  simp only [cL, cR, Try.f3, Option.getD]
  have HQ := hid hQ
  clear hQ
  obtain ⟨i0, hi, hz0, hz1, hz2⟩ := info_parts info32
  have hm2 := hm.out
  subst hm2
  obtain ⟨i26, hi26, hz26, hs26, hb26⟩ := info_parts info26
  obtain ⟨i33, hi33, hz33, hs33, hb33⟩ := info_parts info33
  have hka := ent_lt ha.out rfl
  have hka0 : (0 : Int) ≤ (ka : Int) := by omega
  have OA := hid (HS.out.ent ha.out)
  have hE1 := (List.getElem?_eq_some_iff.1 ha.out).1
  have HE1 := hid hE1
  clear hE1
  have hsz' := hsz.out
  obtain ⟨-, hx0, hxn, -, hxc⟩ := OA.out.parts hxa.out
  have HX := hid (And.intro hx0 hxn)
  clear hx0 hxn
  have hnl := hid OA.out.len
  have SD := hid (HS.out.below (Below.refl _ _).drew)
  by_cases hin : 0 ≤ st.i ∧ st.i ≤ (ea.t.size : Int)
  · obtain ⟨k, hik⟩ : ∃ k : Nat, st.i = (k : Int) := ⟨st.i.toNat, by omega⟩
    have hk : k ≤ ea.t.size := by omega
    clear hin
    obtain ⟨-, d3, d4, d5, d6, d7, -⟩ := SD.out.steps; rw [hik] at d3; have dt := SD.out.bst.cellT ha.out; have dS := (And.intro dt d3)
    go_wp2_with fail
    go_region_held3 (fun w' => w'.cell? ⟨gt, ka, none⟩ = some (.pointer ea.a) ∧ w'.cell? ⟨b7, 3, none⟩ = some (.int .i64 (k : Nat))) (with_reducible assumption)
      (first | (go_at_call 15; refine (Split_yes ea.t ea.a k _ hk OA.out.fi OA.out.wh (OA.out.below (Below.refl _ _).drew).tree).mono ?_; rintro e W1 ⟨x, y, rfl, hT, hU, hB1⟩; have S1 := hid (SD.out.below hB1); obtain ⟨z13, f13⟩ := S1.out.box13; obtain ⟨-, p3, p4, p5, p6, p7, -⟩ := S1.out.steps; rw [hik] at p3; have pt := S1.out.bst.cellT ha.out; have pS := (And.intro pt p3); have S2 := hid (S1.out.put13 x); obtain ⟨-, q3, q4, q5, q6, q7, -⟩ := S2.out.steps; rw [hik] at q3; have qt := S2.out.bst.cellT ha.out; have qS := (And.intro qt q3); obtain ⟨z14, f14⟩ := S2.out.box14; have S3 := hid (S2.out.put14 y); obtain ⟨-, r3, r4, r5, r6, r7, -⟩ := S3.out.steps; rw [hik] at r3; have rt := S3.out.bst.cellT ha.out; have rS := (And.intro rt r3); have T2 := hid (S2.out.at14 y (S1.out.at13 x hT)); have U2 := hid (S2.out.at14 y (S1.out.at13 x hU)); clear hT hU; dsimp only))
    clear d3 d4 d5 d6 d7 dt dS p3 p4 p5 p6 p7 pt pS q3 q4 q5 q6 q7 qt qS z13 f13 z14 f14 S1 S2 SD rt rS r4 r5 r6 r7 hB1
    generalize (W1.setCell ⟨b13, 0, none⟩ (.pointer x)).setCell ⟨b14, 0, none⟩ (.pointer y) = W3 at *
    have hk0 : (0 : Int) ≤ (k : Int) := by omega
    have hk1 : (k : Int) ≤ (ea.t.size : Int) := by omega
    go_wp2_with fail
    have D3 := hid (S3.out.below (Below.refl _ _).drew)
    have hxr := hid ((D3.out.ent ha.out).parts hxa.out).2.2.2.1
    obtain ⟨-, d3, d4, d5, d6, d7, -⟩ := D3.out.steps; rw [hik] at d3
    clear r3
    go_region_held3 (fun w' => w'.cell? ⟨b7, 3, none⟩ = some (.int .i64 (k : Nat))) (with_reducible assumption)
      (first | (go_at_call 14; refine (cut14_to HX.out.1 HX.out.2 hxr.out (by omega) hk).mono ?_; rintro e W4 ⟨a4, c4, rfl, hO4, hB4⟩; have O4 := hid hO4; have B4 := hid (bD2 hB4); have S4 := hid (D3.out.below hB4); have hxr4 := hid ((S4.out.ent ha.out).parts hxa.out).2.2.2.1; obtain ⟨-, p3, p4, p5, p6, p7, -⟩ := S4.out.steps; rw [hik] at p3; clear hO4 hB4 hxr; dsimp only)
             | (go_at_call 14; refine (cut14_from HX.out.1 HX.out.2 hxr4.out (by omega) hk hnl.out).mono ?_; rintro e W5 ⟨a5, c5, rfl, hO5, hB5⟩; have O5 := hid hO5; have B5 := hid hB5; have S5 := hid (S4.out.below hB5); obtain ⟨-, q3, q4, q5, q6, q7, -⟩ := S5.out.steps; rw [hik] at q3; clear hO5 hB5; dsimp only))
    have ONE1 := hid (one_mk (T2.out.keep (Rk.bT B4.out B5.out)) (Tr.splitT_whole ea.t k OA.out.wh.1).1 (Tr.splitT_list ea.t k).1 (fun p hp => OA.out.fits p (List.mem_of_mem_take hp)) (by have := hnl.out; rw [List.length_take]; omega) (by have := hnl.out; rw [List.length_take]; omega) (Rk.own_keep O4.out B5.out))
    have ONE2 := hid (one_mk (U2.out.keep (Rk.bT B4.out B5.out)) (Tr.splitT_whole ea.t k OA.out.wh.1).2 (Tr.splitT_list ea.t k).2 (fun p hp => OA.out.fits p (List.mem_of_mem_drop hp)) (by have := hnl.out; rw [List.length_drop]; omega) (by have := hnl.out; rw [List.length_drop]; omega) O5.out)
    obtain ⟨z14, f14⟩ := S5.out.box14
    clear d3 d4 d5 d6 d7 p3 p4 p5 p6 p7 q3 q4 q5 q6 q7 f14 hxr4 D3 S3 S4 O4 O5 B4 B5 T2 U2
    have S5' := hid (S5.out.below (bAlloc (Below.refl _ _) (.cells #[.pointer y] 26)))
    have HBS := hid S5.out.bel.size
    have HEb : Hid (Es.length ≤ 1000000) := HEs
    go_wp2_with (at_builtin; refine Rk.append_srv rfl (.tmp 196) (.tmp 198) 27 rfl w.heap.size 26 i26 (.agg #[.pointer none]) 1 8 Try.underlying27 hi26 hz26 hs26 hb26 rfl (by decide) (.slice (some ⟨gt, 0, none⟩) Es.length ct) Es.length (Es.map (fun e => .pointer e.a)) rfl (S5'.out.rows.own 0 _ rfl) (.slice (some ⟨W5.heap.size, 0, none⟩) 1 1) 1 [.pointer y] rfl (.inr ⟨⟨W5.heap.size, 0, none⟩, 1, rfl, fun j t hj => lit_cells W5 _ 26 j t hj⟩) rfl ?q1 ?q2 ?q3 ?q4 ?_)
    case q1 => intro u hu; simp at hu; subst hu; rfl
    case q2 => have := HEb.out; unfold maxLen; omega
    case q3 => have := HEb.out; omega
    case q4 => have := HBS.out; simp; omega
    intro v6 W6 hO6 hG6 hF6
    have R6 := hid (S5'.out.rows.grow (i := 0) rfl hG6 hO6 hF6)
    have O6 := hid hO6
    have G6 := hid hG6
    have F6 := hid hF6
    obtain ⟨a6, c6, e6⟩ := own_shape hO6
    subst e6
    clear hO6 hG6 hF6 z14
    have HBS6 := hid R6.out.bel.size
    go_wp2_with (at_builtin; refine Rk.append_srv rfl (.tmp 200) (.tmp 202) 28 rfl w.heap.size 33 i33 (.slice none 0 0) 1 24 Try.underlying28 hi33 hz33 hs33 hb33 rfl (by decide) (.slice (some ⟨gl, 0, none⟩) Es.length cl) Es.length (Es.map (fun e => e.v)) rfl ((R6.out.own 1 _ rfl).alloc _) (.slice (some ⟨W6.heap.size, 0, none⟩) 1 1) 1 [.slice a5 (ea.t.size - k) c5] rfl (.inr ⟨⟨W6.heap.size, 0, none⟩, 1, rfl, fun j t hj => lit_cells W6 _ 33 j t hj⟩) rfl ?q1 ?q2 ?q3 ?q4 ?_)
    case q1 => intro u hu; simp at hu; subst hu; rfl
    case q2 => have := HEb.out; unfold maxLen; omega
    case q3 => have := HEb.out; omega
    case q4 => have := HBS6.out; simp; omega
    intro v7 W7 hO7 hG7 hF7
    obtain ⟨S7, K7⟩ := S5'.out.push (e := ⟨(Tr.splitT ea.t k).2, y, .slice a5 (ea.t.size - k) c5⟩) (ONE2.out.below (bAlloc (Below.refl _ _) _)) G6.out O6.out F6.out (bAlloc (Below.refl _ _) _) hG7 hO7 hF7
    have ONE7 := hid (K7 _ _ _ (ONE1.out.below (bAlloc (Below.refl _ _) _)))
    have SS7 := hid S7
    clear hO7 hG7 hF7 S7 K7
    go_wp2
    apply HQ.out
    exact ⟨_, x, y, SS7.out, by simp, by simp, .inl ⟨rfl, rfl, _, ONE7.out⟩⟩
  · have hd : decide (0 ≤ st.i ∧ st.i ≤ (ea.t.size : Int)) = false := decide_eq_false hin
    obtain ⟨-, d3, d4, d5, d6, d7, -⟩ := SD.out.steps; have dt := SD.out.bst.cellT ha.out; have dS := (And.intro dt d3)
    go_wp2_with fail
    go_region_held3 (fun w' => w'.cell? ⟨gt, ka, none⟩ = some (.pointer ea.a) ∧ w'.cell? ⟨b7, 3, none⟩ = some (.int .i64 st.i)) (with_reducible assumption)
      (first | (go_at_call 15; refine (Split_no ea.t ea.a st.i _ hd (OA.out.below (Below.refl _ _).drew).tree).mono ?_; rintro e W1 ⟨rfl, hB1⟩; have S1 := hid (SD.out.below hB1); obtain ⟨z13, f13⟩ := S1.out.box13; obtain ⟨-, p3, p4, p5, p6, p7, -⟩ := S1.out.steps; have pt := S1.out.bst.cellT ha.out; have pS := (And.intro pt p3); have S2 := hid (S1.out.put13 none); obtain ⟨-, q3, q4, q5, q6, q7, -⟩ := S2.out.steps; have qt := S2.out.bst.cellT ha.out; have qS := (And.intro qt q3); obtain ⟨z14, f14⟩ := S2.out.box14; have S3 := hid (S2.out.put14 none); obtain ⟨-, r3, r4, r5, r6, r7, -⟩ := S3.out.steps; have rt := S3.out.bst.cellT ha.out; have rS := (And.intro rt r3); dsimp only))
    clear d3 d4 d5 d6 d7 dt dS p3 p4 p5 p6 p7 pt pS q3 q4 q5 q6 q7 qt qS z13 f13 z14 f14 S1 S2 SD rt rS r4 r5 r6 r7 hB1
    generalize (W1.setCell ⟨b13, 0, none⟩ (.pointer none)).setCell ⟨b14, 0, none⟩ (.pointer none) = W3 at *
    by_cases h0 : 0 ≤ st.i
    · have h1 : ¬ st.i ≤ (ea.t.size : Int) := fun h => hin ⟨h0, h⟩
      clear hin hd
      go_wp2
      apply HQ.out
      exact ⟨Es, none, none, S3.out, by have := HE1.out; omega, by omega, .inr ⟨rfl, ⟨20, by decide, rfl⟩, rfl, rfl⟩⟩
    · clear hin hd
      go_wp2
      apply HQ.out
      exact ⟨Es, none, none, S3.out, by have := HE1.out; omega, by omega, .inr ⟨rfl, ⟨20, by decide, rfl⟩, rfl, rfl⟩⟩
end Go.Proofs.Ytpifjghhlcjedaa
