/- The walk of one step of quoinlaw02.ShadeBlack whose kind is 1. -/
import Derived.Test.YtpifjghhlcjedaaBks
namespace Go.Proofs.Ytpifjghhlcjedaa
open Go.RowKit Go.Shelf
attribute [local go_sem] Oper.semAt_some

set_option maxRecDepth 100000 in
set_option maxHeartbeats 4000000 in
theorem kind1 (w W : World) (Es : List Ent) (st : Stp) (b7 b13 b14 gt gl m ct cl ka kb : Nat) (xa ya : Option Addr) (xc yc : Nat) (ea eb : Ent) (v0 v1 v2 v3 v6 v19 v20 v21 v22 v23 v24 v25 v26 v27 v28 v29 v30 v31 v32 v33 v34 v35 v36 v37 v38 v39 v40 v41 v42 v43 v44 v45 v46 v47 v48 v49 v50 v51 v52 v53 v54 v55 v56 v57 v58 v59 v60 v61 v62 v63 v64 v65 v66 v67 v68 v69 v70 v71 v72 v74 v75 v76 v77 v78 v79 v80 v81 v82 v83 v84 v85 v86 v87 v88 v89 v90 v91 v92 v93 v94 v95 v96 v97 v98 v99 v100 v101 v102 v103 v104 v105 v106 v107 v108 v109 v110 v111 v112 v113 v114 v115 v116 v117 v118 v119 v120 v121 v122 v123 v124 v125 v126 v127 v128 v129 v130 v131 v132 v133 v134 v135 v136 v137 v138 v139 v140 v141 v142 v143 v144 v145 v146 v147 v148 v149 v150 v151 v152 v153 v154 v155 v156 v157 v158 v159 v160 v161 v162 v163 v164 v165 v166 v167 v168 v169 v170 v171 v172 v173 v174 v175 v176 v177 v178 v179 v180 v181 v182 v183 v184 v185 v186 v187 v188 v189 v190 v191 v192 v193 v194 v195 v196 v197 v198 v199 v200 v201 v202 v203 v204 v205 v206 v207 v208 v209 v210 v211 v212 v213 v214 v215 v216 v217 v218 v219 v220 v221 v222 v223 v224 v225 v226 v227 v228 v229 v230 v231 v232 v233 v234 v235 v236 v237 v238 v239 v240 v241 v242 v243 v244 v245 v246 v247 v248 v249 v250 v251 v252 v253 v254 v255 v256 v257 v258 v259 v260 v261 v262 v263 v264 v265 v266 v267 v268 v269 v270 v271 v272 v273 v274 v275 v276 v277 v278 v279 v280 v281 v282 v283 v284 v285 v286 v287 v288 v289 v290 v291 v292 v293 v294 v295 v296 v297 v298 v299 v300 v301 v302 v303 v304 v305 v306 v307 v308 v309 v310 v311 v312 v313 v314 v315 v316 v317 v318 v319 v320 : Value) (Q : Exit → Act → World → Prop)
    (HS : Hid (Sst w W (.slice (some ⟨gt, 0, none⟩) m ct) (.slice (some ⟨gl, 0, none⟩) m cl) Es st b7 b13 b14 none none)) (_HO : Hid (st.ok w)) (hm : Hid (m = Es.length)) (_HEs : Hid (Es.length ≤ 1000000)) (ha : Hid (Es[ka]? = some ea)) (hb : Hid (Es[kb]? = some eb)) (hxa : Hid (ea.v = .slice xa ea.t.size xc)) (hyb : Hid (eb.v = .slice ya eb.t.size yc)) (hsz : Hid (ea.t.size + eb.t.size + st.l.length ≤ 5000))
    (hQ : ∀ (x4 x5 x15 x16 x17 x18 x19 x74 x75 x76 x77 x78 x79 x80 x81 x82 x83 x84 x85 x86 x87 x88 x89 x90 x91 x92 x93 x94 x95 x96 x97 x98 x99 x100 x101 x102 x103 x104 x105 x106 x107 x108 x109 x110 x111 x112 x113 x114 x115 x116 x117 x118 x119 x120 x121 x122 x123 x124 x125 x126 x127 x128 x129 x130 x131 x132 x133 x134 x135 x136 x137 x138 x139 x140 x141 x142 x143 x144 x145 x146 x147 x148 x149 x150 x151 x152 x153 x154 x155 x156 x157 x158 x159 x160 x161 x162 x163 x164 x165 x166 x167 x168 x169 x170 x171 x172 x173 x174 x175 x176 x177 x178 x179 x180 x181 x182 x183 x184 x185 x186 x187 x188 x189 x190 x191 x192 x193 x194 x195 x196 x197 x198 x199 x200 x201 x202 x203 x204 x205 x206 x207 x208 x209 x210 x211 x212 x213 x214 x215 x216 x217 x218 x219 x220 x221 x222 x223 x224 x225 x226 x227 x228 x229 x230 x231 x232 x233 x234 x235 x236 x237 x238 x239 x240 x241 x242 x243 x244 x245 x246 x247 x248 x249 x250 x251 x252 x253 x254 x255 x256 x257 x258 x259 x260 x261 x262 x263 x264 x265 x266 x267 x268 x269 x270 x271 x272 x273 x274 x275 x276 x277 : Value) (W' : World), Left w Es st b7 b13 b14 x4 x5 x15 x16 x18 W' → Q .normal ⟨#[v0, v1, v2, v3, x4, x5, v6, .pointer (some ⟨b7, 0, none⟩), .int .i64 (ka : Nat), .int .i64 (kb : Nat), .slice xa ea.t.size xc, .slice ya eb.t.size yc, .bool (fitB st.p.l st.p.n), .pointer (some ⟨b13, 0, none⟩), .pointer (some ⟨b14, 0, none⟩), x15, x16, x17, x18, x19, v20, v21, v22, v23, v24, v25, v26, v27, v28, v29, v30, v31, v32, v33, v34, v35, v36, v37, v38, v39, v40, v41, v42, v43, v44, v45, v46, v47, v48, v49, v50, v51, v52, v53, v54, v55, v56, v57, v58, v59, v60, v61, v62, v63, v64, v65, v66, v67, v68, v69, v70, v71, v72, .int .i64 1, x74, x75, x76, x77, x78, x79, x80, x81, x82, x83, x84, x85, x86, x87, x88, x89, x90, x91, x92, x93, x94, x95, x96, x97, x98, x99, x100, x101, x102, x103, x104, x105, x106, x107, x108, x109, x110, x111, x112, x113, x114, x115, x116, x117, x118, x119, x120, x121, x122, x123, x124, x125, x126, x127, x128, x129, x130, x131, x132, x133, x134, x135, x136, x137, x138, x139, x140, x141, x142, x143, x144, x145, x146, x147, x148, x149, x150, x151, x152, x153, x154, x155, x156, x157, x158, x159, x160, x161, x162, x163, x164, x165, x166, x167, x168, x169, x170, x171, x172, x173, x174, x175, x176, x177, x178, x179, x180, x181, x182, x183, x184, x185, x186, x187, x188, x189, x190, x191, x192, x193, x194, x195, x196, x197, x198, x199, x200, x201, x202, x203, x204, x205, x206, x207, x208, x209, x210, x211, x212, x213, x214, x215, x216, x217, x218, x219, x220, x221, x222, x223, x224, x225, x226, x227, x228, x229, x230, x231, x232, x233, x234, x235, x236, x237, x238, x239, x240, x241, x242, x243, x244, x245, x246, x247, x248, x249, x250, x251, x252, x253, x254, x255, x256, x257, x258, x259, x260, x261, x262, x263, x264, x265, x266, x267, x268, x269, x270, x271, x272, x273, x274, x275, x276, x277, v278, v279, v280, v281, v282, v283, v284, v285, v286, v287, v288, v289, v290, v291, v292, v293, v294, v295, v296, v297, v298, v299, v300, v301, v302, v303, v304, v305, v306, v307, v308, v309, v310, v311, v312, v313, v314, v315, v316, v317, v318, v319, v320], []⟩ W') :
    Code.wp Try.prog (swC Try.f3) Q ⟨#[v0, v1, v2, v3, .slice (some ⟨gt, 0, none⟩) m ct, .slice (some ⟨gl, 0, none⟩) m cl, v6, .pointer (some ⟨b7, 0, none⟩), .int .i64 (ka : Nat), .int .i64 (kb : Nat), .slice xa ea.t.size xc, .slice ya eb.t.size yc, .bool (fitB st.p.l st.p.n), .pointer (some ⟨b13, 0, none⟩), .pointer (some ⟨b14, 0, none⟩), .int .i64 0, .slice none 0 0, .slice none 0 0, .bool true, v19, v20, v21, v22, v23, v24, v25, v26, v27, v28, v29, v30, v31, v32, v33, v34, v35, v36, v37, v38, v39, v40, v41, v42, v43, v44, v45, v46, v47, v48, v49, v50, v51, v52, v53, v54, v55, v56, v57, v58, v59, v60, v61, v62, v63, v64, v65, v66, v67, v68, v69, v70, v71, v72, .int .i64 1, v74, v75, v76, v77, v78, v79, v80, v81, v82, v83, v84, v85, v86, v87, v88, v89, v90, v91, v92, v93, v94, v95, v96, v97, v98, v99, v100, v101, v102, v103, v104, v105, v106, v107, v108, v109, v110, v111, v112, v113, v114, v115, v116, v117, v118, v119, v120, v121, v122, v123, v124, v125, v126, v127, v128, v129, v130, v131, v132, v133, v134, v135, v136, v137, v138, v139, v140, v141, v142, v143, v144, v145, v146, v147, v148, v149, v150, v151, v152, v153, v154, v155, v156, v157, v158, v159, v160, v161, v162, v163, v164, v165, v166, v167, v168, v169, v170, v171, v172, v173, v174, v175, v176, v177, v178, v179, v180, v181, v182, v183, v184, v185, v186, v187, v188, v189, v190, v191, v192, v193, v194, v195, v196, v197, v198, v199, v200, v201, v202, v203, v204, v205, v206, v207, v208, v209, v210, v211, v212, v213, v214, v215, v216, v217, v218, v219, v220, v221, v222, v223, v224, v225, v226, v227, v228, v229, v230, v231, v232, v233, v234, v235, v236, v237, v238, v239, v240, v241, v242, v243, v244, v245, v246, v247, v248, v249, v250, v251, v252, v253, v254, v255, v256, v257, v258, v259, v260, v261, v262, v263, v264, v265, v266, v267, v268, v269, v270, v271, v272, v273, v274, v275, v276, v277, v278, v279, v280, v281, v282, v283, v284, v285, v286, v287, v288, v289, v290, v291, v292, v293, v294, v295, v296, v297, v298, v299, v300, v301, v302, v303, v304, v305, v306, v307, v308, v309, v310, v311, v312, v313, v314, v315, v316, v317, v318, v319, v320], []⟩ W := by
  unfold swC stepC
  simp only [cL, cR, Try.f3, Option.getD]
  have HQ := hid hQ
  clear hQ
  obtain ⟨i0, hi, hz0, hz1, hz2⟩ := info_parts info32
  have hka := ent_lt ha.out hm.out
  have hkb := ent_lt hb.out hm.out
  have hka0 : (0 : Int) ≤ (ka : Int) := by omega
  have hkb0 : (0 : Int) ≤ (kb : Int) := by omega
  have OA := hid (HS.out.ent ha.out)
  have OB := hid (HS.out.ent hb.out)
  have SD := hid (HS.out.below (Below.refl _ _).drew)
  obtain ⟨-, -, d4, d5, d6, d7, -⟩ := SD.out.steps; have da := SD.out.bst.cellT ha.out; have db := SD.out.bst.cellT hb.out; have dS := And.intro da (And.intro d4 (And.intro d5 (And.intro d6 (And.intro d7 db))))
  have HJ : Hid (∃ T, T.whole ∧ T.list = ea.t.list ++ (if fitB st.p.l st.p.n = true then [st.p] else []) ++ eb.t.list ∧ ∀ W1, At W1 ea.t ea.a → At W1 eb.t eb.a → Calls Try.prog 13 #[.agg #[.pointer ea.a], .agg #[.int .i64 st.p.s, .int .i64 st.p.o, .int .i64 st.p.l, .int .i64 st.p.n], .agg #[.pointer eb.a]] W1 fun e w' => ∃ x, e = .returned (.agg #[.pointer x]) ∧ At w' T x ∧ Below W1.heap.size W1 w') := by
    have f1 := OA.out.fits
    have f2 := OB.out.fits
    have n1 := OA.out.len
    have n2 := OB.out.len
    have hz := hsz.out
    cases hf : fitB st.p.l st.p.n with
    | true =>
      refine ⟨Tr.joinT ea.t st.p eb.t, Tr.joinT_whole _ OA.out.wh OB.out.wh, by rw [Tr.joinT_list]; simp, fun W1 h1 h2 => Join_fit ea.t eb.t ea.a eb.a _ _ _ _ W1 hf ⟨fun p hp => ?_, by simp; omega⟩ OA.out.wh OB.out.wh h1 h2⟩
      simp at hp
      rcases hp with hp | rfl | hp
      · exact f1 p hp
      · exact (fitB_iff _ _ _ _).1 hf
      · exact f2 p hp
    | false =>
      refine ⟨Tr.gluT ea.t eb.t, Tr.gluT_whole OA.out.wh OB.out.wh, by rw [Tr.gluT_list]; simp, fun W1 h1 h2 => Join_glue ea.t eb.t ea.a eb.a _ _ _ _ W1 hf ⟨fun p hp => ?_, by simp; omega⟩ OA.out.wh OB.out.wh h1 h2⟩
      simp at hp
      rcases hp with hp | hp
      · exact f1 p hp
      · exact f2 p hp
  obtain ⟨T, hTw, hTl, hJ⟩ := HJ.out
  have HTw := hid hTw
  have HTl := hid hTl
  have HJ' := hid hJ
  clear hTw hTl hJ HJ
  go_wp2_with fail
  go_region_held3 (fun w' => w'.cell? ⟨gt, ka, none⟩ = some (.pointer ea.a) ∧ w'.cell? ⟨b7, 4, none⟩ = some (.int .i64 st.p.s) ∧ w'.cell? ⟨b7, 5, none⟩ = some (.int .i64 st.p.o) ∧ w'.cell? ⟨b7, 6, none⟩ = some (.int .i64 st.p.l) ∧ w'.cell? ⟨b7, 7, none⟩ = some (.int .i64 st.p.n) ∧ w'.cell? ⟨gt, kb, none⟩ = some (.pointer eb.a)) (with_reducible assumption)
    (first | (go_at_call 13; refine (HJ'.out _ (OA.out.below (Below.refl _ _).drew).tree (OB.out.below (Below.refl _ _).drew).tree).mono ?_; rintro e W1 ⟨x, rfl, hT, hB1⟩; have S1 := hid (SD.out.below hB1); obtain ⟨z13, f13⟩ := S1.out.box13; obtain ⟨-, -, p4, p5, p6, p7, -⟩ := S1.out.steps; have pa := S1.out.bst.cellT ha.out; have pb := S1.out.bst.cellT hb.out; have pS := And.intro pa (And.intro p4 (And.intro p5 (And.intro p6 (And.intro p7 pb)))); have S2 := hid (S1.out.put13 x); obtain ⟨-, -, g4, g5, g6, g7, -⟩ := S2.out.steps; have ga := S2.out.bst.cellT ha.out; have gb := S2.out.bst.cellT hb.out; have gS := And.intro ga (And.intro g4 (And.intro g5 (And.intro g6 (And.intro g7 gb)))); have T2 := hid (S1.out.at13 x hT); clear hT; dsimp only))
  generalize W1.setCell ⟨b13, 0, none⟩ (.pointer x) = W2 at *
  have hxs := OA.out.parts hxa.out
  have hys := OB.out.parts hyb.out
  obtain ⟨-, hx0, hxn, -, -⟩ := hxs
  clear hys hB1 z13 f13 p4 p5 p6 p7 pa pb pS d4 d5 d6 d7 da db dS g4 g5 g6 g7 ga gb gS S1 SD
  have A2 := hid (S2.out.ent ha.out)
  have hxr := hid (A2.out.parts hxa.out).2.2.2.1
  have hsz' := hsz.out
  have hnl := hid OA.out.len
  go_wp2_with fail
  refine (cut14_all hx0 hxn hxr.out (by omega) hnl.out).mono ?_
  rintro e W3 ⟨a3, c3, rfl, hO3, hB3⟩
  have O3 := hid hO3
  have B3 := hid hB3
  have S3 := hid (S2.out.below hB3)
  clear hO3 hB3
  dsimp only
  cases hf : fitB st.p.l st.p.n with
  | false =>
    have Y3 := hid ((S3.out.ent hb.out).srv)
    rw [hyb.out] at Y3
    rw [hf] at HTl HQ
    go_wp2_with (at_builtin; refine Rk.append_srv rfl (.tmp 159) (.tmp 160) 33 rfl W2.heap.size 32 i0 (.agg #[.int .i64 0, .int .i64 0, .int .i64 0, .int .i64 0]) 4 32 Try.underlying33 hi hz0 hz1 hz2 rfl (by decide) (.slice a3 ea.t.size c3) ea.t.size (cells ea.t.list) rfl O3.out (.slice ya eb.t.size yc) eb.t.size (cells eb.t.list) rfl Y3.out ?q1 (cells_one _) ?q2 ?q3 ?q4 ?_)
    case q1 => rw [cells_length, OB.out.len]
    case q2 => unfold maxLen; omega
    case q3 => omega
    case q4 => exact B3.out.size
    intro v5 W5 hO5 hG5 _
    have B5 : Hid (Below W2.heap.size W2 W5) := B3.out.grown hG5 B3.out.size (fun k hk => (O3.out.lt k hk).1)
    go_wp2
    apply HQ.out
    refine ⟨Es, x, none, S2.out.below B5.out, ?_, by omega, .inl ⟨rfl, rfl, T, ?_⟩⟩
    · have := (List.getElem?_eq_some_iff.1 ha.out).1; omega
    · refine one_mk (T2.out.keep B5.out) HTw.out HTl.out ?_ ?_ ?_ ?_ (base := W2.heap.size) (n := ea.t.size + eb.t.size)
      · intro p hp
        simp at hp
        rcases hp with hp | hp
        · exact OA.out.fits p hp
        · exact OB.out.fits p hp
      · have := OA.out.len; have := OB.out.len; simp; omega
      · have := OA.out.len; have := OB.out.len; simp; omega
      · simpa [cells_append] using hO5
  | true =>
    rw [hf] at HTl HQ
    obtain ⟨-, -, g4, g5, g6, g7, -⟩ := S3.out.steps
    go_wp2_with (at_builtin; refine Rk.append_srv rfl (.tmp 154) (.tmp 157) 33 rfl W2.heap.size 32 i0 (.agg #[.int .i64 0, .int .i64 0, .int .i64 0, .int .i64 0]) 4 32 Try.underlying33 hi hz0 hz1 hz2 rfl (by decide) (.slice a3 ea.t.size c3) ea.t.size (cells ea.t.list) rfl (O3.out.alloc _) (.slice (some ⟨W3.heap.size, 0, none⟩) 1 1) 1 (cells [st.p]) rfl (.inr ⟨⟨W3.heap.size, 0, none⟩, 1, rfl, fun j t hj => lit_cells W3 _ 32 j t hj⟩) rfl (cells_one _) ?q2 ?q3 ?q4 ?_)
    case q2 => unfold maxLen; omega
    case q3 => omega
    case q4 => have := B3.out.size; simp; omega
    intro v4 W4 hO4 hG4 _
    have B4 : Hid (Below W2.heap.size W2 W4) := (bAlloc B3.out _).grown hG4 (by have := B3.out.size; simp; omega) (fun k hk => (O3.out.lt k hk).1)
    rw [← cells_append] at hO4
    obtain ⟨a4, c4, e4⟩ := own_shape hO4
    subst e4
    have O4 := hid hO4
    have S4 := hid (S2.out.below B4.out)
    have Y4 := hid ((S4.out.ent hb.out).srv)
    rw [hyb.out] at Y4
    clear hO4 hG4 g4 g5 g6 g7
    go_wp2_with (at_builtin; refine Rk.append_srv rfl (.tmp 159) (.tmp 160) 33 rfl W2.heap.size 32 i0 (.agg #[.int .i64 0, .int .i64 0, .int .i64 0, .int .i64 0]) 4 32 Try.underlying33 hi hz0 hz1 hz2 rfl (by decide) (.slice a4 (ea.t.size + 1) c4) (ea.t.size + 1) (cells (ea.t.list ++ [st.p])) rfl O4.out (.slice ya eb.t.size yc) eb.t.size (cells eb.t.list) rfl Y4.out ?q1 (cells_one _) ?q2 ?q3 ?q4 ?_)
    case q1 => rw [cells_length, OB.out.len]
    case q2 => unfold maxLen; omega
    case q3 => omega
    case q4 => exact B4.out.size
    intro v5 W5 hO5 hG5 _
    have B5 : Hid (Below W2.heap.size W2 W5) := B4.out.grown hG5 B4.out.size (fun k hk => (O4.out.lt k hk).1)
    go_wp2
    apply HQ.out
    refine ⟨Es, x, none, S2.out.below B5.out, ?_, by omega, .inl ⟨rfl, rfl, T, ?_⟩⟩
    · have := (List.getElem?_eq_some_iff.1 ha.out).1; omega
    · refine one_mk (T2.out.keep B5.out) HTw.out HTl.out ?_ ?_ ?_ ?_ (base := W2.heap.size) (n := ea.t.size + 1 + eb.t.size)
      · intro p hp
        simp at hp
        rcases hp with hp | rfl | hp
        · exact OA.out.fits p hp
        · exact (fitB_iff _ _ _ _).1 hf
        · exact OB.out.fits p hp
      · have := OA.out.len; have := OB.out.len; simp; omega
      · have := OA.out.len; have := OB.out.len; simp; omega
      · show W5.ownsRow W2.heap.size 32 4 v5 (ea.t.size + 1 + eb.t.size) (cells (ea.t.list ++ [st.p] ++ eb.t.list))
        rw [cells_append]
        exact hO5
end Go.Proofs.Ytpifjghhlcjedaa
