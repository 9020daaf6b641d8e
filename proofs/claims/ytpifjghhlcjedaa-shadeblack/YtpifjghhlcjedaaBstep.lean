/- One step of quoinlaw02.ShadeBlack. -/
import Derived.Test.YtpifjghhlcjedaaBsw
import Derived.Test.YtpifjghhlcjedaaBtail
import Derived.Deep.QuietTactic
import Derived.BigQuiet
namespace Go.Proofs.Ytpifjghhlcjedaa
open Go.RowKit Go.Shelf

/-- one step, with its frame -/
def blkC (f : Func) : Code := cL (cR (cL (cL (cR (cL (cR (cR (cR (cR (cR (f.body.getD .skip)))))))))))

/-- within a step, ahead of the boxes -/
structure Mst (w W : World) (vt vl : Value) (Es : List Ent) (st : Stp) (b7 : Nat) : Prop where
  rows : Rk.Rrs w W ([⟨26, 1, vt, Es.length, Es.map (fun e => .pointer e.a)⟩, ⟨33, 1, vl, Es.length, Es.map (fun e => e.v)⟩] ++ [⟨35, 9, .slice (some ⟨b7, 0, none⟩) 1 1, 1, st.cs⟩])
  one : ∀ e ∈ Es, One W e.t e.a e.v
theorem Mst.below {w W W' : World} {vt vl : Value} {Es : List Ent} {st : Stp} {b7 : Nat} (h : Mst w W vt vl Es st b7) (hb : Below W.heap.size W W') : Mst w W' vt vl Es st b7 :=
  ⟨h.rows.keep hb, fun e he => (h.one e he).below hb⟩
theorem Mst.bst {w W : World} {vt vl : Value} {Es : List Ent} {st : Stp} {b7 : Nat} (h : Mst w W vt vl Es st b7) : Bst w W vt vl Es := ⟨h.rows.left, h.one⟩
theorem Mst.step {w W : World} {vt vl : Value} {Es : List Ent} {st : Stp} {b7 : Nat} (h : Mst w W vt vl Es st b7) (j : Nat) (hj : j < 9) : W.cell? ⟨b7, j, none⟩ = st.cs[j]? :=
  (h.rows.own 2 _ rfl).cellAt j (by show j < 1 * 9; omega)
theorem Mst.steps {w W : World} {vt vl : Value} {Es : List Ent} {st : Stp} {b7 : Nat} (h : Mst w W vt vl Es st b7) : W.cell? ⟨b7, 0, none⟩ = some (.int .i64 st.k) ∧ W.cell? ⟨b7, 1, none⟩ = some (.int .i64 st.a) ∧ W.cell? ⟨b7, 2, none⟩ = some (.int .i64 st.b) ∧ W.cell? ⟨b7, 4, none⟩ = some (.int .i64 st.p.s) ∧ W.cell? ⟨b7, 5, none⟩ = some (.int .i64 st.p.o) ∧ W.cell? ⟨b7, 6, none⟩ = some (.int .i64 st.p.l) ∧ W.cell? ⟨b7, 7, none⟩ = some (.int .i64 st.p.n) ∧ W.cell? ⟨b7, 8, none⟩ = some st.v :=
  ⟨h.step 0 (by omega), h.step 1 (by omega), h.step 2 (by omega), h.step 4 (by omega), h.step 5 (by omega), h.step 6 (by omega), h.step 7 (by omega), h.step 8 (by omega)⟩
theorem Mst.new {w W : World} {vt vl : Value} {Es : List Ent} (h : Bst w W vt vl Es) (st : Stp) {cs : Array Value} (hc : cs.toList = st.cs) : Mst w (W.alloc (.cells cs 35)) vt vl Es st W.heap.size := by
  have hb := Rk.bAlloc (Below.refl W.heap.size W) (.cells cs 35)
  have hl : cs.size = 9 := by rw [← Array.length_toList, hc]; rfl
  have o : (W.alloc (.cells cs 35)).ownsRow W.heap.size 35 9 (.slice (some ⟨W.heap.size, 0, none⟩) 1 1) 1 st.cs :=
    ⟨rfl, .inr ⟨W.heap.size, 1, cs, rfl, Nat.le_refl _, heap_alloc_new W _, Nat.le_refl _, by decide, by rw [hl], by rw [hc]; rfl⟩⟩
  exact ⟨h.rows.new hb o, fun e he => (h.one e he).below hb⟩
theorem Rk.Rrs.turn {w W : World} {A : List Rk.Rr} {x y z : Rk.Rr} (h : Rk.Rrs w W (A ++ [x] ++ [y] ++ [z])) : Rk.Rrs w W (A ++ [y, z, x]) := by
  have key : ∀ (i : Nat) (r : Rk.Rr), (A ++ [y, z, x])[i]? = some r → ∃ k, (A ++ [x] ++ [y] ++ [z])[k]? = some r ∧ (i < A.length → k = i) ∧ (i = A.length → k = A.length + 1) ∧ (i = A.length + 1 → k = A.length + 2) ∧ (i = A.length + 2 → k = A.length) ∧ i < A.length + 3 := by
    intro i r hi
    have hlt := (List.getElem?_eq_some_iff.1 hi).1
    simp at hlt
    by_cases h1 : i < A.length
    · refine ⟨i, ?_, fun _ => rfl, by omega, by omega, by omega, by omega⟩
      rw [List.getElem?_append_left h1] at hi
      rw [List.append_assoc, List.append_assoc, List.getElem?_append_left h1]; exact hi
    · rw [List.getElem?_append_right (by omega)] at hi
      have e2 : A ++ [x] ++ [y] ++ [z] = A ++ [x, y, z] := by simp
      have : i = A.length ∨ i = A.length + 1 ∨ i = A.length + 2 := by omega
      rcases this with rfl | rfl | rfl
      · refine ⟨A.length + 1, ?_, by omega, by omega, by omega, by omega, by omega⟩
        rw [e2, List.getElem?_append_right (by omega), show A.length + 1 - A.length = 1 from by omega]
        simpa using hi
      · refine ⟨A.length + 2, ?_, by omega, by omega, by omega, by omega, by omega⟩
        rw [e2, List.getElem?_append_right (by omega), show A.length + 2 - A.length = 2 from by omega]
        rw [show A.length + 1 - A.length = 1 from by omega] at hi
        simpa using hi
      · refine ⟨A.length, ?_, by omega, by omega, by omega, by omega, by omega⟩
        rw [e2, List.getElem?_append_right (by omega), show A.length - A.length = 0 from by omega]
        rw [show A.length + 2 - A.length = 2 from by omega] at hi
        simpa using hi
  refine ⟨fun i r hi => ?_, fun i j p q hij hi hj => ?_, h.bel⟩
  · obtain ⟨k, hk, _⟩ := key i r hi
    exact h.own k r hk
  · obtain ⟨k, hk, k1, k2, k3, k4, k5⟩ := key i p hi
    obtain ⟨l, hl, l1, l2, l3, l4, l5⟩ := key j q hj
    refine h.far k l p q (fun e => ?_) hk hl
    have ci : i < A.length ∨ i = A.length ∨ i = A.length + 1 ∨ i = A.length + 2 := by omega
    have cj : j < A.length ∨ j = A.length ∨ j = A.length + 1 ∨ j = A.length + 2 := by omega
    rcases ci with ci | ci | ci | ci <;> rcases cj with cj | cj | cj | cj <;> simp_all <;> omega
theorem Mst.boxes {w W : World} {vt vl : Value} {Es : List Ent} {st : Stp} {b7 : Nat} (h : Mst w W vt vl Es st b7) :
    Sst w ((W.alloc (.cells #[.pointer none] 26)).alloc (.cells #[.pointer none] 26)) vt vl Es st b7 W.heap.size (W.heap.size + 1) none none := by
  have k1 := Rk.bAlloc (Below.refl W.heap.size W) (.cells #[.pointer none] 26)
  have k2 := Rk.bAlloc (Below.refl (W.alloc (.cells #[.pointer none] 26)).heap.size (W.alloc (.cells #[.pointer none] 26))) (.cells #[.pointer none] 26)
  have o1 : (W.alloc (.cells #[.pointer none] 26)).ownsRow W.heap.size 26 1 (.slice (some ⟨W.heap.size, 0, none⟩) 1 1) 1 [.pointer none] :=
    ⟨rfl, .inr ⟨W.heap.size, 1, #[.pointer none], rfl, Nat.le_refl _, heap_alloc_new W _, Nat.le_refl _, by decide, rfl, rfl⟩⟩
  have o2 : ((W.alloc (.cells #[.pointer none] 26)).alloc (.cells #[.pointer none] 26)).ownsRow (W.alloc (.cells #[.pointer none] 26)).heap.size 26 1 (.slice (some ⟨W.heap.size + 1, 0, none⟩) 1 1) 1 [.pointer none] :=
    ⟨rfl, .inr ⟨W.heap.size + 1, 1, #[.pointer none], rfl, by simp, by have := heap_alloc_new (W.alloc (.cells #[.pointer none] 26)) (.cells #[.pointer none] 26); rwa [World.size_alloc] at this, Nat.le_refl _, by decide, rfl, rfl⟩⟩
  have r := (h.rows.new k1 o1).new k2 o2
  exact ⟨r.turn, fun e he => ((h.one e he).below k1).below k2⟩
end Go.Proofs.Ytpifjghhlcjedaa
namespace Go.Proofs.Ytpifjghhlcjedaa
open Go.RowKit Go.Shelf
attribute [local go_sem] Oper.semAt_some

set_option maxRecDepth 100000 in
set_option maxHeartbeats 4000000 in
theorem step_any (w W : World) (Es : List Ent) (st : Stp) (b off n c i ct cl : Nat) (at_ al : Option Addr) (v1 v2 v3 v7 v8 v9 v10 v11 v12 v13 v14 v15 v16 v17 v18 v19 v20 v21 v22 v23 v24 v25 v26 v27 v28 v29 v30 v31 v32 v33 v34 v35 v36 v37 v38 v39 v40 v41 v42 v43 v44 v45 v46 v47 v48 v49 v50 v51 v52 v53 v54 v55 v56 v57 v58 v59 v60 v61 v62 v63 v64 v65 v66 v67 v68 v69 v70 v71 v72 v73 v74 v75 v76 v77 v78 v79 v80 v81 v82 v83 v84 v85 v86 v87 v88 v89 v90 v91 v92 v93 v94 v95 v96 v97 v98 v99 v100 v101 v102 v103 v104 v105 v106 v107 v108 v109 v110 v111 v112 v113 v114 v115 v116 v117 v118 v119 v120 v121 v122 v123 v124 v125 v126 v127 v128 v129 v130 v131 v132 v133 v134 v135 v136 v137 v138 v139 v140 v141 v142 v143 v144 v145 v146 v147 v148 v149 v150 v151 v152 v153 v154 v155 v156 v157 v158 v159 v160 v161 v162 v163 v164 v165 v166 v167 v168 v169 v170 v171 v172 v173 v174 v175 v176 v177 v178 v179 v180 v181 v182 v183 v184 v185 v186 v187 v188 v189 v190 v191 v192 v193 v194 v195 v196 v197 v198 v199 v200 v201 v202 v203 v204 v205 v206 v207 v208 v209 v210 v211 v212 v213 v214 v215 v216 v217 v218 v219 v220 v221 v222 v223 v224 v225 v226 v227 v228 v229 v230 v231 v232 v233 v234 v235 v236 v237 v238 v239 v240 v241 v242 v243 v244 v245 v246 v247 v248 v249 v250 v251 v252 v253 v254 v255 v256 v257 v258 v259 v260 v261 v262 v263 v264 v265 v266 v267 v268 v269 v270 v271 v272 v273 v274 v275 v276 v277 v278 v279 v280 v281 v282 v283 v284 v285 v286 v287 v288 v289 v290 v291 v292 v293 v294 v295 v296 v297 v298 v299 v300 v301 v302 v303 v304 v305 v306 v307 v308 v309 v310 v311 v312 v313 v314 v315 v316 v317 v318 v319 v320 : Value) (Q : Exit → Act → World → Prop)
    (BS : Hid (Bst w W (.slice at_ Es.length ct) (.slice al Es.length cl) Es)) (HO : Hid (st.ok w)) (hi : (i : Int) < (n : Int)) (hll : Hid (st.l.length ≤ 140737488355328)) (HE1 : Hid (1 ≤ Es.length)) (HEs : Hid (Es.length ≤ 1000))
    (hst : Hid (∀ q, q < 9 → W.cell? ⟨b, off + i * 9 + q, none⟩ = st.cs[q]?))
    (hQ : ∀ (x4 x5 x7 x8 x9 x10 x11 x12 x13 x14 x15 x16 x17 x18 x19 x36 x37 x38 x39 x40 x41 x42 x43 x44 x45 x46 x47 x48 x49 x50 x51 x52 x53 x54 x55 x56 x57 x58 x59 x60 x61 x62 x63 x64 x65 x66 x67 x68 x69 x70 x71 x72 x73 x74 x75 x76 x77 x78 x79 x80 x81 x82 x83 x84 x85 x86 x87 x88 x89 x90 x91 x92 x93 x94 x95 x96 x97 x98 x99 x100 x101 x102 x103 x104 x105 x106 x107 x108 x109 x110 x111 x112 x113 x114 x115 x116 x117 x118 x119 x120 x121 x122 x123 x124 x125 x126 x127 x128 x129 x130 x131 x132 x133 x134 x135 x136 x137 x138 x139 x140 x141 x142 x143 x144 x145 x146 x147 x148 x149 x150 x151 x152 x153 x154 x155 x156 x157 x158 x159 x160 x161 x162 x163 x164 x165 x166 x167 x168 x169 x170 x171 x172 x173 x174 x175 x176 x177 x178 x179 x180 x181 x182 x183 x184 x185 x186 x187 x188 x189 x190 x191 x192 x193 x194 x195 x196 x197 x198 x199 x200 x201 x202 x203 x204 x205 x206 x207 x208 x209 x210 x211 x212 x213 x214 x215 x216 x217 x218 x219 x220 x221 x222 x223 x224 x225 x226 x227 x228 x229 x230 x231 x232 x233 x234 x235 x236 x237 x238 x239 x240 x241 x242 x243 x244 x245 x246 x247 x248 x249 x250 x251 x252 x253 x254 x255 x256 x257 x258 x259 x260 x261 x262 x263 x264 x265 x266 x267 x268 x269 x270 x271 x272 x273 x274 x275 x276 x277 x278 x279 x280 x281 x282 x283 x284 x285 x286 x287 x288 x289 x290 x291 x292 x293 x294 x295 x296 x297 x298 x299 x300 x301 x302 x303 x304 : Value) (W' : World), (∃ Es', Bst w W' x4 x5 Es' ∧ 1 ≤ Es'.length ∧ Es'.length ≤ Es.length + 2) → Q .normal ⟨#[.slice (some ⟨b, off, none⟩) n c, v1, v2, v3, x4, x5, .int .i64 (i : Nat), x7, x8, x9, x10, x11, x12, x13, x14, x15, x16, x17, x18, x19, v20, v21, v22, v23, v24, v25, v26, v27, v28, v29, v30, v31, v32, v33, v34, v35, x36, x37, x38, x39, x40, x41, x42, x43, x44, x45, x46, x47, x48, x49, x50, x51, x52, x53, x54, x55, x56, x57, x58, x59, x60, x61, x62, x63, x64, x65, x66, x67, x68, x69, x70, x71, x72, x73, x74, x75, x76, x77, x78, x79, x80, x81, x82, x83, x84, x85, x86, x87, x88, x89, x90, x91, x92, x93, x94, x95, x96, x97, x98, x99, x100, x101, x102, x103, x104, x105, x106, x107, x108, x109, x110, x111, x112, x113, x114, x115, x116, x117, x118, x119, x120, x121, x122, x123, x124, x125, x126, x127, x128, x129, x130, x131, x132, x133, x134, x135, x136, x137, x138, x139, x140, x141, x142, x143, x144, x145, x146, x147, x148, x149, x150, x151, x152, x153, x154, x155, x156, x157, x158, x159, x160, x161, x162, x163, x164, x165, x166, x167, x168, x169, x170, x171, x172, x173, x174, x175, x176, x177, x178, x179, x180, x181, x182, x183, x184, x185, x186, x187, x188, x189, x190, x191, x192, x193, x194, x195, x196, x197, x198, x199, x200, x201, x202, x203, x204, x205, x206, x207, x208, x209, x210, x211, x212, x213, x214, x215, x216, x217, x218, x219, x220, x221, x222, x223, x224, x225, x226, x227, x228, x229, x230, x231, x232, x233, x234, x235, x236, x237, x238, x239, x240, x241, x242, x243, x244, x245, x246, x247, x248, x249, x250, x251, x252, x253, x254, x255, x256, x257, x258, x259, x260, x261, x262, x263, x264, x265, x266, x267, x268, x269, x270, x271, x272, x273, x274, x275, x276, x277, x278, x279, x280, x281, x282, x283, x284, x285, x286, x287, x288, x289, x290, x291, x292, x293, x294, x295, x296, x297, x298, x299, x300, x301, x302, x303, x304, v305, v306, v307, v308, v309, v310, v311, v312, v313, v314, v315, v316, v317, v318, v319, v320], []⟩ W') :
    Code.wp Try.prog (blkC Try.f3) Q ⟨#[.slice (some ⟨b, off, none⟩) n c, v1, v2, v3, .slice at_ Es.length ct, .slice al Es.length cl, .int .i64 (i : Nat), v7, v8, v9, v10, v11, v12, v13, v14, v15, v16, v17, v18, v19, v20, v21, v22, v23, v24, v25, v26, v27, v28, v29, v30, v31, v32, v33, v34, v35, v36, v37, v38, v39, v40, v41, v42, v43, v44, v45, v46, v47, v48, v49, v50, v51, v52, v53, v54, v55, v56, v57, v58, v59, v60, v61, v62, v63, v64, v65, v66, v67, v68, v69, v70, v71, v72, v73, v74, v75, v76, v77, v78, v79, v80, v81, v82, v83, v84, v85, v86, v87, v88, v89, v90, v91, v92, v93, v94, v95, v96, v97, v98, v99, v100, v101, v102, v103, v104, v105, v106, v107, v108, v109, v110, v111, v112, v113, v114, v115, v116, v117, v118, v119, v120, v121, v122, v123, v124, v125, v126, v127, v128, v129, v130, v131, v132, v133, v134, v135, v136, v137, v138, v139, v140, v141, v142, v143, v144, v145, v146, v147, v148, v149, v150, v151, v152, v153, v154, v155, v156, v157, v158, v159, v160, v161, v162, v163, v164, v165, v166, v167, v168, v169, v170, v171, v172, v173, v174, v175, v176, v177, v178, v179, v180, v181, v182, v183, v184, v185, v186, v187, v188, v189, v190, v191, v192, v193, v194, v195, v196, v197, v198, v199, v200, v201, v202, v203, v204, v205, v206, v207, v208, v209, v210, v211, v212, v213, v214, v215, v216, v217, v218, v219, v220, v221, v222, v223, v224, v225, v226, v227, v228, v229, v230, v231, v232, v233, v234, v235, v236, v237, v238, v239, v240, v241, v242, v243, v244, v245, v246, v247, v248, v249, v250, v251, v252, v253, v254, v255, v256, v257, v258, v259, v260, v261, v262, v263, v264, v265, v266, v267, v268, v269, v270, v271, v272, v273, v274, v275, v276, v277, v278, v279, v280, v281, v282, v283, v284, v285, v286, v287, v288, v289, v290, v291, v292, v293, v294, v295, v296, v297, v298, v299, v300, v301, v302, v303, v304, v305, v306, v307, v308, v309, v310, v311, v312, v313, v314, v315, v316, v317, v318, v319, v320], []⟩ W := by
  unfold blkC
  simp only [cL, cR, Try.f3, Option.getD]
  have HQ := hid hQ
  clear hQ
  have hi0 : (0 : Int) ≤ (i : Int) := by omega
  obtain ⟨sa, sn, sc, hsv⟩ := HO.out.2.2.2.2.1
  have s0 : W.cell? ⟨b, off + i * 9, none⟩ = some (.int .i64 st.k) := hst.out 0 (by omega)
  have s1 : W.cell? ⟨b, off + i * 9 + 1, none⟩ = some (.int .i64 st.a) := hst.out 1 (by omega)
  have s2 : W.cell? ⟨b, off + i * 9 + 2, none⟩ = some (.int .i64 st.b) := hst.out 2 (by omega)
  have s3 : W.cell? ⟨b, off + i * 9 + 3, none⟩ = some (.int .i64 st.i) := hst.out 3 (by omega)
  have s4 : W.cell? ⟨b, off + i * 9 + 4, none⟩ = some (.int .i64 st.p.s) := hst.out 4 (by omega)
  have s5 : W.cell? ⟨b, off + i * 9 + 5, none⟩ = some (.int .i64 st.p.o) := hst.out 5 (by omega)
  have s6 : W.cell? ⟨b, off + i * 9 + 6, none⟩ = some (.int .i64 st.p.l) := hst.out 6 (by omega)
  have s7 : W.cell? ⟨b, off + i * 9 + 7, none⟩ = some (.int .i64 st.p.n) := hst.out 7 (by omega)
  have s8 : W.cell? ⟨b, off + i * 9 + 8, none⟩ = some st.v := hst.out 8 (by omega)
  rw [hsv] at s8
  go_wp2_with fail
  have M2 := hid (Mst.new BS.out st (cs := #[.int .i64 st.k, .int .i64 st.a, .int .i64 st.b, .int .i64 st.i, .int .i64 st.p.s, .int .i64 st.p.o, .int .i64 st.p.l, .int .i64 st.p.n, .slice sa sn sc]) (by unfold Stp.cs; rw [hsv]))
  generalize W.alloc (.cells #[.int .i64 st.k, .int .i64 st.a, .int .i64 st.b, .int .i64 st.i, .int .i64 st.p.s, .int .i64 st.p.o, .int .i64 st.p.l, .int .i64 st.p.n, .slice sa sn sc] 35) = W2 at *
  generalize W.heap.size = b7 at *
  clear s0 s1 s2 s3 s4 s5 s6 s7 s8 hst hi hi0
  have HO' := HO.out
  obtain ⟨hok1, hok2, hok3, hok4, -, hok6⟩ := HO'
  have D2 := hid (M2.out.below (Below.refl _ _).drew)
  obtain ⟨-, d1, d2, -, -, -, -, -⟩ := D2.out.steps; have dS := And.intro d1 d2
  have he1 := HE1.out
  have he2 := HEs.out
  go_region_held3 (fun w' => w'.cell? ⟨b7, 1, none⟩ = some (.int .i64 st.a) ∧ w'.cell? ⟨b7, 2, none⟩ = some (.int .i64 st.b)) (with_reducible assumption)
    (first | (go_at_call_of 10 (Value.int IntKind.i64 st.a); refine (place10_any st.a Es.length _ hok2.1 hok2.2 (by omega) (by omega)).mono ?_; rintro e W3 ⟨⟨ka, hka, rfl⟩, hB3⟩; have M3 := hid (D2.out.below hB3); obtain ⟨-, p1, p2, -, -, -, -, -⟩ := M3.out.steps; have pS := And.intro p1 p2; clear hB3; dsimp only)
           | (go_at_call_of 10 (Value.int IntKind.i64 st.b); refine (place10_any st.b Es.length _ hok3.1 hok3.2 (by omega) (by omega)).mono ?_; rintro e W4 ⟨⟨kb, hkb, rfl⟩, hB4⟩; have M4 := hid (M3.out.below hB4); obtain ⟨-, q1, q2, -, -, -, -, -⟩ := M4.out.steps; have qS := And.intro q1 q2; clear hB4; dsimp only) | fail)
  clear d1 d2 dS p1 p2 pS q1 q2 qS D2 M3 M2
  obtain ⟨ea, hea⟩ : ∃ ea, Es[ka]? = some ea := ⟨_, List.getElem?_eq_getElem hka⟩
  obtain ⟨eb, heb⟩ : ∃ eb, Es[kb]? = some eb := ⟨_, List.getElem?_eq_getElem hkb⟩
  have HA := hid hea
  have HB := hid heb
  obtain ⟨gt, ct', gl, cl', q1, q2, q3, q4, q5, q6⟩ := M4.out.bst.at hea
  simp only [Value.slice.injEq] at q1 q2
  obtain ⟨rfl, -, rfl⟩ := q1
  obtain ⟨rfl, -, rfl⟩ := q2
  have q7 := M4.out.bst.cellL heb
  obtain ⟨xa, xc, hxa, -, -⟩ := q6.shape
  obtain ⟨ya, yc, hyb, -, -⟩ := (M4.out.bst.at heb).choose_spec.choose_spec.choose_spec.choose_spec.2.2.2.2.2.shape
  have HXA := hid hxa
  have HYB := hid hyb
  rw [hxa] at q5
  rw [hyb] at q7
  have hka1 : (ka : Int) < (Es.length : Int) := by omega
  have hkb1 : (kb : Int) < (Es.length : Int) := by omega
  have hka0 : (0 : Int) ≤ (ka : Int) := by omega
  have hkb0 : (0 : Int) ≤ (kb : Int) := by omega
  clear hea heb q3 q4 q6 hxa hyb hka hkb
  go_wp2
  go_quiet (fail)
  have M5 := hid (M4.out.below (show Below W4.heap.size W4 (W4.drewN nq) from ⟨rfl, rfl, rfl, Nat.le_refl _, fun _ _ => rfl⟩))
  clear q5 q7 M4
  generalize W4.drewN nq = W5 at *
  obtain ⟨-, -, -, r4, r5, r6, r7, r8⟩ := M5.out.steps
  rw [hsv] at r8
  have hR := hok6.keep M5.out.rows.bel
  rw [hsv] at hR
  obtain ⟨_, _, _, e1, hsn, _, _⟩ := hR
  obtain ⟨rfl, rfl, rfl⟩ := (show _ ∧ _ ∧ _ by simpa using e1)
  subst hsn
  clear e1
  have OA := (M5.out.bst.one ea (List.mem_of_getElem? HA.out)).sz
  have OB := (M5.out.bst.one eb (List.mem_of_getElem? HB.out)).sz
  have hA5 : (ea.t.size : Int) ≤ 100000 := by omega
  have hB5 : (eb.t.size : Int) ≤ 100000 := by omega
  have hL5 : (st.l.length : Int) ≤ 140737488355328 := by have := hll.out; omega
  clear OA OB
  by_cases hbig : 5000 < (ea.t.size : Int) + (eb.t.size : Int) + (st.l.length : Int)
  · go_wp2
    apply HQ.out
    exact ⟨Es, M5.out.bst, he1, by omega⟩
  have hsz : Hid (ea.t.size + eb.t.size + st.l.length ≤ 5000) := by unfold Hid; omega
  have hbig' : (ea.t.size : Int) + (eb.t.size : Int) + (st.l.length : Int) ≤ 5000 := by omega
  clear hbig
  go_wp2_with fail
  refine (refFit_any _ _ _ _ _).mono ?_
  rintro e W6 ⟨rfl, rfl⟩
  have M6 := hid (M5.out.below (Rk.bAlloc (Below.refl W5.heap.size W5) (.cells #[.int .i64 st.p.s, .int .i64 st.p.o, .int .i64 st.p.l, .int .i64 st.p.n] 32)))
  clear r4 r5 r6 r7 r8 M5
  generalize W5.alloc (.cells #[.int .i64 st.p.s, .int .i64 st.p.o, .int .i64 st.p.l, .int .i64 st.p.n] 32) = W6 at *
  have S8 := hid M6.out.boxes
  have t0 := S8.out.steps.1
  dsimp only
  go_wp2_with fail
  refine (place10_any st.k 6 _ hok1.1 hok1.2 (by omega) (by omega)).mono ?_
  rintro e W9 ⟨⟨kk, hkk, rfl⟩, hB9⟩
  have S9 := hid (S8.out.below hB9)
  clear t0 hB9
  dsimp only
  rename_i k2 h53 k1 h2 k0 h18
  refine h18 _ _ ?_
  simp only [wpList, Exit.then]
  refine h2 _ _ ?_
  have hk9 : Hid (Value.int .i64 (kk : Int) = .int .i64 0 ∨ Value.int .i64 (kk : Int) = .int .i64 1 ∨ Value.int .i64 (kk : Int) = .int .i64 2 ∨ Value.int .i64 (kk : Int) = .int .i64 3 ∨ Value.int .i64 (kk : Int) = .int .i64 4 ∨ Value.int .i64 (kk : Int) = .int .i64 5) := by
    unfold Hid
    have : kk = 0 ∨ kk = 1 ∨ kk = 2 ∨ kk = 3 ∨ kk = 4 ∨ kk = 5 := by omega
    rcases this with rfl | rfl | rfl | rfl | rfl | rfl <;> simp
  clear h18 h2 k0 k1
  refine sw_any w W9 Es st b7 W6.heap.size (W6.heap.size + 1) gt gl Es.length ct cl ka kb xa ya xc yc ea eb  _ _ _ _ _ _ _ _ _ _ _ _ _ _ _ _ _ _ _ _ _ _ _ _ _ _ _ _ _ _ _ _ _ _ _ _ _ _ _ _ _ _ _ _ _ _ _ _ _ _ _ _ _ _ _ _ _ _ _ _ _ _ _ _ _ _ _ _ _ _ _ _ _ _ _ _ _ _ _ _ _ _ _ _ _ _ _ _ _ _ _ _ _ _ _ _ _ _ _ _ _ _ _ _ _ _ _ _ _ _ _ _ _ _ _ _ _ _ _ _ _ _ _ _ _ _ _ _ _ _ _ _ _ _ _ _ _ _ _ _ _ _ _ _ _ _ _ _ _ _ _ _ _ _ _ _ _ _ _ _ _ _ _ _ _ _ _ _ _ _ _ _ _ _ _ _ _ _ _ _ _ _ _ _ _ _ _ _ _ _ _ _ _ _ _ _ _ _ _ _ _ _ _ _ _ _ _ _ _ _ _ _ _ _ _ _ _ _ _ _ _ _ _ _ _ _ _ _ _ _ _ _ _ _ _ _ _ _ _ _ _ _ _ _ _ _ _ _ _ _ _ _ _ _ _ _ _ _ _ _ _ _ _ _ _ _ _ _ _ _ _ _ _ _ _ _ _ _ _ _ _ _ _ _ _ _ _ _ _ _ _ _ _ _ _ _ _ _ _ _ _ _ _ _ _ _ _ _ S9 HO rfl (by have := HEs.out; unfold Hid; omega) HA HB HXA HYB hsz hk9 ?_
  intro x4 x5 x15 x16 x17 x18 x19 x74 x75 x76 x77 x78 x79 x80 x81 x82 x83 x84 x85 x86 x87 x88 x89 x90 x91 x92 x93 x94 x95 x96 x97 x98 x99 x100 x101 x102 x103 x104 x105 x106 x107 x108 x109 x110 x111 x112 x113 x114 x115 x116 x117 x118 x119 x120 x121 x122 x123 x124 x125 x126 x127 x128 x129 x130 x131 x132 x133 x134 x135 x136 x137 x138 x139 x140 x141 x142 x143 x144 x145 x146 x147 x148 x149 x150 x151 x152 x153 x154 x155 x156 x157 x158 x159 x160 x161 x162 x163 x164 x165 x166 x167 x168 x169 x170 x171 x172 x173 x174 x175 x176 x177 x178 x179 x180 x181 x182 x183 x184 x185 x186 x187 x188 x189 x190 x191 x192 x193 x194 x195 x196 x197 x198 x199 x200 x201 x202 x203 x204 x205 x206 x207 x208 x209 x210 x211 x212 x213 x214 x215 x216 x217 x218 x219 x220 x221 x222 x223 x224 x225 x226 x227 x228 x229 x230 x231 x232 x233 x234 x235 x236 x237 x238 x239 x240 x241 x242 x243 x244 x245 x246 x247 x248 x249 x250 x251 x252 x253 x254 x255 x256 x257 x258 x259 x260 x261 x262 x263 x264 x265 x266 x267 x268 x269 x270 x271 x272 x273 x274 x275 x276 x277 W10 hLeft
  simp only [Exit.then]
  refine h53 _ _ ?_
  clear h53 k2
  refine tail_any w W10 Es st b7 W6.heap.size (W6.heap.size + 1) _ _ _ _ _ _ _ _ _ _ _ _ _ _ _ _ _ _ _ _ _ _ _ _ _ _ _ _ _ _ _ _ _ _ _ _ _ _ _ _ _ _ _ _ _ _ _ _ _ _ _ _ _ _ _ _ _ _ _ _ _ _ _ _ _ _ _ _ _ _ _ _ _ _ _ _ _ _ _ _ _ _ _ _ _ _ _ _ _ _ _ _ _ _ _ _ _ _ _ _ _ _ _ _ _ _ _ _ _ _ _ _ _ _ _ _ _ _ _ _ _ _ _ _ _ _ _ _ _ _ _ _ _ _ _ _ _ _ _ _ _ _ _ _ _ _ _ _ _ _ _ _ _ _ _ _ _ _ _ _ _ _ _ _ _ _ _ _ _ _ _ _ _ _ _ _ _ _ _ _ _ _ _ _ _ _ _ _ _ _ _ _ _ _ _ _ _ _ _ _ _ _ _ _ _ _ _ _ _ _ _ _ _ _ _ _ _ _ _ _ _ _ _ _ _ _ _ _ _ _ _ _ _ _ _ _ _ _ _ _ _ _ _ _ _ _ _ _ _ _ _ _ _ _ _ _ _ _ _ _ _ _ _ _ _ _ _ _ _ _ _ _ _ _ _ _ _ _ _ _ _ _ _ _ _ _ _ _ _ _ _ _ _ _ _ _ _ _ _ _ _ _ _ _ _ _ _ _ _ _ _ _ _ _ _ _ _ _ _ _ hLeft HEs ?_
  intro y4 y5 y278 y279 y280 y281 y282 y283 y284 y285 y286 y287 y288 y289 y290 y291 y292 y293 y294 y295 y296 y297 y298 y299 y300 y301 y302 y303 y304 W11 hP
  simp only [Exit.inBlock]
  apply HQ.out
  exact hP
end Go.Proofs.Ytpifjghhlcjedaa
