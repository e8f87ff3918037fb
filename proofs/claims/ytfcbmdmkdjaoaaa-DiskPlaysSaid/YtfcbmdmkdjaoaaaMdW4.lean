/- DiskPlays, one way through a round: Arm. Conditions: those of the round. -/
import Derived.Test.YtfcbmdmkdjaoaaaMdW
namespace Go.Proofs.Ytfcbmdmkdjaoaaa
set_option linter.unusedVariables false
set_option linter.unusedSimpArgs false
open Go.RowKit Go.Maps
set_option maxRecDepth 100000
set_option maxHeartbeats 20000000
theorem dway_4 (w : Go.World) (c S n : Nat) (gm : Nat) (k : Nat) (HS : Go.RowKit.Hid (((64 : Nat) ≤ S ∧ S ≤ (256 : Nat)) ∧ (1 : Nat) ≤ k ∧ k ≤ (64 : Nat))) (j g1 : Nat) (d : Go.Proofs.Ytfcbmdmkdjaoaaa.DK) (m : Go.Proofs.Ytfcbmdmkdjaoaaa.Mod) (hj80 : j ≤ 80) (hI : Go.RowKit.Hid (Go.Proofs.Ytfcbmdmkdjaoaaa.Inv k S j d m)) (ad : Go.Addr) (op sec nn : Int) (ba : Option Go.Addr) (bb : List (BitVec (8 : Nat))) (bc : Nat) (wh : Bool) (ka : Option Go.Addr) (kk : List Bool) (kc2 bn kn : Nat) (HA : Go.RowKit.Hid
    (bn = bb.length ∧
      kn = kk.length ∧
        bn ≤ Go.maxLen ∧
          kn ≤ Go.maxLen ∧
            Go.Proofs.Ytfcbmdmkdjaoaaa.Rd Go.Proofs.Ytfcbmdmkdjaoaaa.b8 w w.heap.size ba bb ∧
              Go.Proofs.Ytfcbmdmkdjaoaaa.Rd Go.Proofs.Ytfcbmdmkdjaoaaa.boV w w.heap.size ka kk)) (HW : Go.RowKit.Hid
    ((Go.Lit.int Go.IntKind.i64 op).wf = Bool.true ∧
      (Go.Lit.int Go.IntKind.i64 sec).wf = Bool.true ∧ (Go.Lit.int Go.IntKind.i64 nn).wf = Bool.true)) (hk30 : kn ≤ (300 : Nat)) (q7 : (↑kn : Int) ≤ (300 : Int)) (cs : Array Go.Value) (ga : Nat) (HCS : Go.RowKit.Hid
    (cs =
      #[Go.Value.int Go.IntKind.i64 op, Go.Value.int Go.IntKind.i64 sec, Go.Value.int Go.IntKind.i64 nn,
        Go.Value.slice ba bn bc, Go.Value.bool wh, Go.Value.slice ka kn kc2])) (wc : Go.World) (A2 : Option Go.Addr) (bs : List (BitVec (8 : Nat))) (nb cb : Nat) (HNB : Go.RowKit.Hid (nb = bs.length ∧ nb ≤ Go.maxLen)) (HR : Go.RowKit.Hid (Go.Proofs.Ytfcbmdmkdjaoaaa.Rnd w gm g1 d m ga cs A2 bs wc)) (v3 v4 v5 v6 v8 v9 v11 v15 v16 v17 v18 v19 v20 v21 v22 v23 v24 v25 v26 v27 v28 v29 v30 v31 v32 v33 v34 v35 v36 v37 v38 v39 v40 v41 v42 v43 v44 v45 v46 v47 v48 v49 v50 v51 v52 v53 v54 v55 v56 v57 v58 v59 v60 v61 v62 v63 v64 v65 v66 v67 v68 v69 v70 v71 v72 v73 v74 v75 v76 v77 v78 v79 v80 v81 v82 v83 v84 v85 v86 v87 v88 v89 v90 v91 v92 v93 v94 v95 v96 v97 v98 v99 v100 v101 v102 v103 v104 v105 v106 v107 v108 v109 v110 v111 v112 v113 v114 v115 v116 v117 v118 v119 v120 v121 v122 v123 v124 v125 v126 v127 v128 v129 v130 v131 v132 v133 v134 v135 v136 v137 v138 v139 v140 v141 v142 v143 v144 v145 v146 v147 v148 v149 v150 v152 v153 v154 v155 v156 v157 v158 v159 v160 v161 v162 v163 v164 v165 v166 v167 v168 v169 v170 v171 v172 v173 v174 v175 v176 v177 v178 v179 v180 v181 v182 v183 v184 v185 v186 v187 v188 v189 v190 v191 v192 v193 v194 v195 v196 v197 v198 v199 v200 v201 v202 v203 v204 v205 v206 v207 v208 v209 v210 v211 v212 v213 v214 v215 v216 v217 v218 v219 v220 v221 v222 v223 v224 v225 v226 v227 v228 v229 v230 v231 v232 v233 v234 v235 v236 v237 v238 v239 v240 v241 v242 v243 v244 v245 v246 v247 v248 v249 v250 v251 v252 v253 v254 v255 v256 v257 v258 v259 v260 v261 v262 v263 v264 v265 v266 v267 v268 v269 v270 v271 v272 v273 v274 v275 v276 v277 v278 v279 v280 v281 v282 v283 v284 v285 v286 v287 v288 v289 v290 v291 v292 v293 v294 v295 v296 v297 v298 v299 v300 v301 v302 v303 v304 v305 v306 v307 v308 v309 v310 v311 v312 v313 v314 v315 v316 v317 v318 v319 v320 v321 v322 v323 v324 v325 v326 v327 v328 v329 v330 v331 v332 v333 v334 v335 v336 v337 v338 v339 v340 v341 v342 v343 v344 v345 v346 v347 v348 v349 v350 v351 v352 v353 v354 v355 v356 v357 v358 v359 v360 v361 : Go.Value) (J0 : Go.Act → Go.World → Prop) (hJ0 : ∀ (a' : Go.Act) (w' : Go.World), dplays_rel w c S n gm k j ad ga A2 nb cb v3 v4 v5 v8 v9 v11 v15 v25 v26 v27 v28 v29 v30 v31 v32 v33 v34 v35 v36 v37 v38 v39 v40 v41 v42 v43 v44 v45 v46 v47 v48 v49 v50 v51 v52 v53 v54 v55 v56 v57 v58 v59 v60 v61 v62 v63 v64 v65 v66 v67 v68 v69 v70 v71 v72 v73 v74 v75 v76 v77 v78 v79 v80 v81 v82 v83 v84 v85 v86 v87 v88 v89 v90 v91 v92 v93 v94 v95 v96 v97 v98 v99 v100 v101 v102 v103 v328 v329 v330 v331 v332 v333 v334 v335 v336 v337 v338 v339 v340 v341 v342 v343 v344 v345 v346 v347 v348 v349 v350 v351 v352 v353 v354 v355 v356 v357 v358 v359 v360 v361 a' w' → J0 a' w') (K0 : Go.Act → Go.World → Prop) (hK0 : ∀ (a' : Go.Act) (w' : Go.World), Go.Met J0 a' w' → K0 a' w') (Q0 : Go.Exit → Go.Act → Go.World → Prop) (hop : op = 4) :
    Go.Code.wp Try.prog (blkIn Try.f3 6) (Go.Exit.then K0 Q0) { tmps := #[Go.Value.int Go.IntKind.i64 (↑k : Int), Go.Value.int Go.IntKind.i64 (↑S : Int), Go.Value.slice (Option.some ad) n c, v3, v4, v5, v6, Go.Value.pointer (Option.some { block := g1, off := (0 : Nat) }), v8, v9, Go.Value.pointer (Option.some { block := gm, off := (0 : Nat) }), v11, Go.Value.int Go.IntKind.i64 (↑j : Int), Go.Value.pointer (Option.some { block := ga, off := (0 : Nat) }), Go.Value.slice A2 nb cb, v15, v16, v17, v18, v19, v20, v21, v22, v23, v24, v25, v26, v27, v28, v29, v30, v31, v32, v33, v34, v35, v36, v37, v38, v39, v40, v41, v42, v43, v44, v45, v46, v47, v48, v49, v50, v51, v52, v53, v54, v55, v56, v57, v58, v59, v60, v61, v62, v63, v64, v65, v66, v67, v68, v69, v70, v71, v72, v73, v74, v75, v76, v77, v78, v79, v80, v81, v82, v83, v84, v85, v86, v87, v88, v89, v90, v91, v92, v93, v94, v95, v96, v97, v98, v99, v100, v101, v102, v103, v104, v105, v106, v107, v108, v109, v110, v111, v112, v113, v114, v115, v116, v117, v118, v119, v120, v121, v122, v123, v124, v125, v126, v127, v128, v129, v130, v131, v132, v133, v134, v135, v136, v137, v138, v139, v140, v141, v142, v143, v144, v145, v146, v147, v148, v149, v150, Go.Value.int Go.IntKind.i64 op, v152, v153, v154, v155, v156, v157, v158, v159, v160, v161, v162, v163, v164, v165, v166, v167, v168, v169, v170, v171, v172, v173, v174, v175, v176, v177, v178, v179, v180, v181, v182, v183, v184, v185, v186, v187, v188, v189, v190, v191, v192, v193, v194, v195, v196, v197, v198, v199, v200, v201, v202, v203, v204, v205, v206, v207, v208, v209, v210, v211, v212, v213, v214, v215, v216, v217, v218, v219, v220, v221, v222, v223, v224, v225, v226, v227, v228, v229, v230, v231, v232, v233, v234, v235, v236, v237, v238, v239, v240, v241, v242, v243, v244, v245, v246, v247, v248, v249, v250, v251, v252, v253, v254, v255, v256, v257, v258, v259, v260, v261, v262, v263, v264, v265, v266, v267, v268, v269, v270, v271, v272, v273, v274, v275, v276, v277, v278, v279, v280, v281, v282, v283, v284, v285, v286, v287, v288, v289, v290, v291, v292, v293, v294, v295, v296, v297, v298, v299, v300, v301, v302, v303, v304, v305, v306, v307, v308, v309, v310, v311, v312, v313, v314, v315, v316, v317, v318, v319, v320, v321, v322, v323, v324, v325, v326, v327, v328, v329, v330, v331, v332, v333, v334, v335, v336, v337, v338, v339, v340, v341, v342, v343, v344, v345, v346, v347, v348, v349, v350, v351, v352, v353, v354, v355, v356, v357, v358, v359, v360, v361], defers := [] } wc := by
  conv => arg 2; whnf
  obtain ⟨E, hL, hE, hbk, hrd, hAd⟩ := HR.out
  rw [HCS.out] at hbk
  have HLc := Lib.hid hL
  have HBk := Lib.hid hbk
  have HRd := Lib.hid (And.intro hE (And.intro hrd hAd))
  clear hL hbk hrd hAd hE HR
  subst hop
  have f2 : wc.cell? ⟨ga, 2, none⟩ = some (.int .i64 nn) := HBk.out.cell 2
  have f5 : wc.cell? ⟨ga, 5, none⟩ = some (.slice ka kn kc2) := HBk.out.cell 5
  have hz : -9223372036854775808 ≤ nn ∧ nn ≤ 9223372036854775807 := wf64 HW.out.2.2
  have hkr : Rd boV wc wc.heap.size ka kk := (HA.out.2.2.2.2.2.below HLc.out.bl).more HLc.out.bl.size
  have hkm : ∀ a, ka = some a → kk ≠ [] → a.block < w.heap.size := fun a e h => by
    obtain ⟨a2, e2, h2, _⟩ := HA.out.2.2.2.2.2 0 (List.length_pos_iff.2 h)
    rw [e] at e2; injection e2 with e2; rw [e2]; exact h2
  have HC := Lib.hid (larm_c HLc.out nn hz.2 ka kk kn kc2 HA.out.2.1 hkr (fun a e h => .inl (hkm a e h)) (by omega))
  have HK := Lib.hid (And.intro hkr hkm)
  have HZ := Lib.hid hz
  obtain ⟨z1, z2⟩ := hz
  clear hkr hkm
  go_wp2_with fail
  refine Calls.mono HC.out ?_
  rintro e w1 ⟨rfl, h1, s1⟩
  have hb1 := s1.bk HBk.out (.inr HRd.out.1)
  have hr1 := s1.rd HK.out.1 (fun a e h => .inl (HK.out.2 a e h))
  -- armed := true
  obtain ⟨a1, a2, a3, a4, a5, a6, b0⟩ := h1.cells
  have c4 : w1.cell? ⟨gm, 4, none⟩ = some (.bool m.armed) := b0.cell 4
  have r4 := b0.free 4
  obtain ⟨h2, s2⟩ := h1.set 4 (.bool true) { m with armed := true } rfl rfl rfl rfl (fun _ _ _ _ _ _ => rfl)
  have hb2 := s2.bk hb1 (.inr HRd.out.1)
  have hr2 := s2.rd hr1 (fun a e h => .inl (HK.out.2 a e h))
  have g2 : (w1.setCell ⟨gm, 4, none⟩ (.bool true)).cell? ⟨ga, 2, none⟩ = some (.int .i64 nn) := hb2.cell 2
  -- left := N
  have b2 := b0.set 4 (.bool true)
  have c5 : (w1.setCell ⟨gm, 4, none⟩ (.bool true)).cell? ⟨gm, 5, none⟩ = some (.int .i64 m.left) := b2.cell 5
  have r5 := b2.free 5
  obtain ⟨h3, s3⟩ := h2.set 5 (.int .i64 nn) { m with armed := true, left := nn } rfl rfl rfl rfl (fun _ _ _ _ _ _ => rfl)
  have hb3 := s3.bk hb2 (.inr HRd.out.1)
  have hr3 := s3.rd hr2 (fun a e h => .inl (HK.out.2 a e h))
  have b3 := b2.set 5 (.int .i64 nn)
  have c6 : ((w1.setCell ⟨gm, 4, none⟩ (.bool true)).setCell ⟨gm, 5, none⟩ (.int .i64 nn)).cell? ⟨gm, 5, none⟩ = some (.int .i64 nn) := b3.cell 5
  obtain ⟨W3, hW3⟩ : ∃ W, W = (w1.setCell ⟨gm, 4, none⟩ (.bool true)).setCell ⟨gm, 5, none⟩ (.int .i64 nn) := ⟨_, rfl⟩
  have HW3 := Lib.hid hW3
  rw [← hW3] at h3 hb3 hr3 b3
  have H3 := Lib.hid (And.intro h3 (And.intro hb3 (And.intro hr3 b3)))
  clear h1 s1 hb1 hr1 h2 s2 hb2 hr2 b2 h3 s3 hb3 hr3 b3 hW3 f2 f5 HC b0
  by_cases hn1 : nn < 1
  · have hb4 := H3.out.2.2.2
    have e5 : W3.cell? ⟨gm, 5, none⟩ = some (.int .i64 nn) := hb4.cell 5
    have q5 := hb4.free 5
    obtain ⟨h5, s5⟩ := H3.out.1.set 5 (.int .i64 1) { m with armed := true, left := 1 } rfl rfl rfl rfl (fun _ _ _ _ _ _ => rfl)
    have hb5 := s5.bk H3.out.2.1 (.inr HRd.out.1)
    have hr5 := s5.rd H3.out.2.2.1 (fun a e h => .inl (HK.out.2 a e h))
    have k5 : (W3.setCell ⟨gm, 5, none⟩ (.int .i64 1)).cell? ⟨ga, 5, none⟩ = some (.slice ka kn kc2) := hb5.cell 5
    obtain ⟨d1, d2, d3, d4, d5, d6, bb6⟩ := h5.cells
    have e6 : (W3.setCell ⟨gm, 5, none⟩ (.int .i64 1)).cell? ⟨gm, 6, none⟩ = some (.slice d5 m.keep.length d6) := bb6.cell 6
    have q6 := bb6.free 6
    obtain ⟨h6, s6⟩ := h5.setKeep ka kk kn kc2 HA.out.2.1 hr5 HK.out.2
    have HF := Lib.hid h6.drop
    have HI := Lib.hid (hI.out.arm nn 1 kk (by omega) HZ.out.2 (by have := HA.out.2.1; omega))
    rw [HW3.out] at e5 q5 k5 e6 q6 HF
    clear h5 s5 hb5 hr5 bb6 h6 s6 hb4
    go_wp2_with fail
    go_meet
    case rel => exact ⟨g1, _, _, rfl, HF, Lib.hid (HI.out.more (by omega) (by omega))⟩
  · have hr5 := H3.out.2.2.1
    have k5 : W3.cell? ⟨ga, 5, none⟩ = some (.slice ka kn kc2) := H3.out.2.1.cell 5
    obtain ⟨d1, d2, d3, d4, d5, d6, bb6⟩ := H3.out.1.cells
    have e6 : W3.cell? ⟨gm, 6, none⟩ = some (.slice d5 m.keep.length d6) := bb6.cell 6
    have q6 := bb6.free 6
    obtain ⟨h6, s6⟩ := H3.out.1.setKeep ka kk kn kc2 HA.out.2.1 hr5 HK.out.2
    have HF := Lib.hid h6.drop
    have HI := Lib.hid (hI.out.arm nn nn kk (by omega) HZ.out.2 (by have := HA.out.2.1; omega))
    rw [HW3.out] at k5 e6 q6 HF
    clear bb6 h6 s6 hr5
    go_wp2_with fail
    go_meet
    case rel => exact ⟨g1, _, _, rfl, HF, Lib.hid (HI.out.more (by omega) (by omega))⟩
end Go.Proofs.Ytfcbmdmkdjaoaaa
