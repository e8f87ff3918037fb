/- DiskPlays, one way through a round: Sync. Conditions: those of the round. -/
import Derived.Test.YtfcbmdmkdjaoaaaMdW
namespace Go.Proofs.Ytfcbmdmkdjaoaaa
set_option linter.unusedVariables false
set_option linter.unusedSimpArgs false
open Go.RowKit Go.Maps
set_option maxRecDepth 100000
set_option maxHeartbeats 20000000
theorem dway_3 (w : Go.World) (c S n : Nat) (gm : Nat) (k : Nat) (HS : Go.RowKit.Hid (((64 : Nat) ≤ S ∧ S ≤ (256 : Nat)) ∧ (1 : Nat) ≤ k ∧ k ≤ (64 : Nat))) (j g1 : Nat) (d : Go.Proofs.Ytfcbmdmkdjaoaaa.DK) (m : Go.Proofs.Ytfcbmdmkdjaoaaa.Mod) (hj80 : j ≤ 80) (hI : Go.RowKit.Hid (Go.Proofs.Ytfcbmdmkdjaoaaa.Inv k S j d m)) (ad : Go.Addr) (op sec nn : Int) (ba : Option Go.Addr) (bb : List (BitVec (8 : Nat))) (bc : Nat) (wh : Bool) (ka : Option Go.Addr) (kk : List Bool) (kc2 bn kn : Nat) (HA : Go.RowKit.Hid
    (bn = bb.length ∧
      kn = kk.length ∧
        bn ≤ Go.maxLen ∧
          kn ≤ Go.maxLen ∧
            Go.Proofs.Ytfcbmdmkdjaoaaa.Rd Go.Proofs.Ytfcbmdmkdjaoaaa.b8 w w.heap.size ba bb ∧
              Go.Proofs.Ytfcbmdmkdjaoaaa.Rd Go.Proofs.Ytfcbmdmkdjaoaaa.boV w w.heap.size ka kk)) (HW : Go.RowKit.Hid
    ((Go.Lit.int Go.IntKind.i64 op).wf = Bool.true ∧
      (Go.Lit.int Go.IntKind.i64 sec).wf = Bool.true ∧ (Go.Lit.int Go.IntKind.i64 nn).wf = Bool.true)) (hk30 : kn ≤ (300 : Nat)) (q7 : (↑kn : Int) ≤ (300 : Int)) (cs : Array Go.Value) (ga : Nat) (HCS : Go.RowKit.Hid
    (cs =
      #[Go.Value.int Go.IntKind.i64 op, Go.Value.int Go.IntKind.i64 sec, Go.Value.int Go.IntKind.i64 nn,
        Go.Value.slice ba bn bc, Go.Value.bool wh, Go.Value.slice ka kn kc2])) (wc : Go.World) (A2 : Option Go.Addr) (bs : List (BitVec (8 : Nat))) (nb cb : Nat) (HNB : Go.RowKit.Hid (nb = bs.length ∧ nb ≤ Go.maxLen)) (HR : Go.RowKit.Hid (Go.Proofs.Ytfcbmdmkdjaoaaa.Rnd w gm g1 d m ga cs A2 bs wc)) (v3 v4 v5 v6 v8 v9 v11 v15 v16 v17 v18 v19 v20 v21 v22 v23 v24 v25 v26 v27 v28 v29 v30 v31 v32 v33 v34 v35 v36 v37 v38 v39 v40 v41 v42 v43 v44 v45 v46 v47 v48 v49 v50 v51 v52 v53 v54 v55 v56 v57 v58 v59 v60 v61 v62 v63 v64 v65 v66 v67 v68 v69 v70 v71 v72 v73 v74 v75 v76 v77 v78 v79 v80 v81 v82 v83 v84 v85 v86 v87 v88 v89 v90 v91 v92 v93 v94 v95 v96 v97 v98 v99 v100 v101 v102 v103 v104 v105 v106 v107 v108 v109 v110 v111 v112 v113 v114 v115 v116 v117 v118 v119 v120 v121 v122 v123 v124 v125 v126 v127 v128 v129 v130 v131 v132 v133 v134 v135 v136 v137 v138 v139 v140 v141 v142 v143 v144 v145 v146 v147 v148 v149 v150 v152 v153 v154 v155 v156 v157 v158 v159 v160 v161 v162 v163 v164 v165 v166 v167 v168 v169 v170 v171 v172 v173 v174 v175 v176 v177 v178 v179 v180 v181 v182 v183 v184 v185 v186 v187 v188 v189 v190 v191 v192 v193 v194 v195 v196 v197 v198 v199 v200 v201 v202 v203 v204 v205 v206 v207 v208 v209 v210 v211 v212 v213 v214 v215 v216 v217 v218 v219 v220 v221 v222 v223 v224 v225 v226 v227 v228 v229 v230 v231 v232 v233 v234 v235 v236 v237 v238 v239 v240 v241 v242 v243 v244 v245 v246 v247 v248 v249 v250 v251 v252 v253 v254 v255 v256 v257 v258 v259 v260 v261 v262 v263 v264 v265 v266 v267 v268 v269 v270 v271 v272 v273 v274 v275 v276 v277 v278 v279 v280 v281 v282 v283 v284 v285 v286 v287 v288 v289 v290 v291 v292 v293 v294 v295 v296 v297 v298 v299 v300 v301 v302 v303 v304 v305 v306 v307 v308 v309 v310 v311 v312 v313 v314 v315 v316 v317 v318 v319 v320 v321 v322 v323 v324 v325 v326 v327 v328 v329 v330 v331 v332 v333 v334 v335 v336 v337 v338 v339 v340 v341 v342 v343 v344 v345 v346 v347 v348 v349 v350 v351 v352 v353 v354 v355 v356 v357 v358 v359 v360 v361 : Go.Value) (J0 : Go.Act → Go.World → Prop) (hJ0 : ∀ (a' : Go.Act) (w' : Go.World), dplays_rel w c S n gm k j ad ga A2 nb cb v3 v4 v5 v8 v9 v11 v15 v25 v26 v27 v28 v29 v30 v31 v32 v33 v34 v35 v36 v37 v38 v39 v40 v41 v42 v43 v44 v45 v46 v47 v48 v49 v50 v51 v52 v53 v54 v55 v56 v57 v58 v59 v60 v61 v62 v63 v64 v65 v66 v67 v68 v69 v70 v71 v72 v73 v74 v75 v76 v77 v78 v79 v80 v81 v82 v83 v84 v85 v86 v87 v88 v89 v90 v91 v92 v93 v94 v95 v96 v97 v98 v99 v100 v101 v102 v103 v328 v329 v330 v331 v332 v333 v334 v335 v336 v337 v338 v339 v340 v341 v342 v343 v344 v345 v346 v347 v348 v349 v350 v351 v352 v353 v354 v355 v356 v357 v358 v359 v360 v361 a' w' → J0 a' w') (K0 : Go.Act → Go.World → Prop) (hK0 : ∀ (a' : Go.Act) (w' : Go.World), Go.Met J0 a' w' → K0 a' w') (Q0 : Go.Exit → Go.Act → Go.World → Prop) (hop : op = 3) :
    Go.Code.wp Try.prog (blkIn Try.f3 6) (Go.Exit.then K0 Q0) { tmps := #[Go.Value.int Go.IntKind.i64 (↑k : Int), Go.Value.int Go.IntKind.i64 (↑S : Int), Go.Value.slice (Option.some ad) n c, v3, v4, v5, v6, Go.Value.pointer (Option.some { block := g1, off := (0 : Nat) }), v8, v9, Go.Value.pointer (Option.some { block := gm, off := (0 : Nat) }), v11, Go.Value.int Go.IntKind.i64 (↑j : Int), Go.Value.pointer (Option.some { block := ga, off := (0 : Nat) }), Go.Value.slice A2 nb cb, v15, v16, v17, v18, v19, v20, v21, v22, v23, v24, v25, v26, v27, v28, v29, v30, v31, v32, v33, v34, v35, v36, v37, v38, v39, v40, v41, v42, v43, v44, v45, v46, v47, v48, v49, v50, v51, v52, v53, v54, v55, v56, v57, v58, v59, v60, v61, v62, v63, v64, v65, v66, v67, v68, v69, v70, v71, v72, v73, v74, v75, v76, v77, v78, v79, v80, v81, v82, v83, v84, v85, v86, v87, v88, v89, v90, v91, v92, v93, v94, v95, v96, v97, v98, v99, v100, v101, v102, v103, v104, v105, v106, v107, v108, v109, v110, v111, v112, v113, v114, v115, v116, v117, v118, v119, v120, v121, v122, v123, v124, v125, v126, v127, v128, v129, v130, v131, v132, v133, v134, v135, v136, v137, v138, v139, v140, v141, v142, v143, v144, v145, v146, v147, v148, v149, v150, Go.Value.int Go.IntKind.i64 op, v152, v153, v154, v155, v156, v157, v158, v159, v160, v161, v162, v163, v164, v165, v166, v167, v168, v169, v170, v171, v172, v173, v174, v175, v176, v177, v178, v179, v180, v181, v182, v183, v184, v185, v186, v187, v188, v189, v190, v191, v192, v193, v194, v195, v196, v197, v198, v199, v200, v201, v202, v203, v204, v205, v206, v207, v208, v209, v210, v211, v212, v213, v214, v215, v216, v217, v218, v219, v220, v221, v222, v223, v224, v225, v226, v227, v228, v229, v230, v231, v232, v233, v234, v235, v236, v237, v238, v239, v240, v241, v242, v243, v244, v245, v246, v247, v248, v249, v250, v251, v252, v253, v254, v255, v256, v257, v258, v259, v260, v261, v262, v263, v264, v265, v266, v267, v268, v269, v270, v271, v272, v273, v274, v275, v276, v277, v278, v279, v280, v281, v282, v283, v284, v285, v286, v287, v288, v289, v290, v291, v292, v293, v294, v295, v296, v297, v298, v299, v300, v301, v302, v303, v304, v305, v306, v307, v308, v309, v310, v311, v312, v313, v314, v315, v316, v317, v318, v319, v320, v321, v322, v323, v324, v325, v326, v327, v328, v329, v330, v331, v332, v333, v334, v335, v336, v337, v338, v339, v340, v341, v342, v343, v344, v345, v346, v347, v348, v349, v350, v351, v352, v353, v354, v355, v356, v357, v358, v359, v360, v361], defers := [] } wc := by
  conv => arg 2; whnf
  obtain ⟨E, hL, hE, hbk, hrd, hAd⟩ := HR.out
  rw [HCS.out] at hbk
  have HLc := Lib.hid hL
  have HBk := Lib.hid hbk
  have HRd := Lib.hid (And.intro hE (And.intro hrd hAd))
  clear hL hbk hrd hAd hE HR
  subst hop
  have HC := Lib.hid (lsync_c HLc.out)
  cases ho : m.off with
  | true =>
    rw [hI.out.syncOff ho] at HC
    go_wp2_with fail
    refine Calls.mono HC.out ?_
    rintro e w1 ⟨rfl, h1, s1⟩
    obtain ⟨a1, a2, a3, a4, a5, a6, b0⟩ := h1.cells
    rw [ho] at b0
    have c3 : w1.cell? ⟨gm, 3, none⟩ = some (.bool true) := b0.cell 3
    have HF := Lib.hid h1.drop
    clear h1 s1 b0 HC ho
    go_wp2_with fail
    go_meet
    case rel => exact ⟨g1, _, m, rfl, HF, Lib.hid (hI.out.more (by omega) (by omega))⟩
  | false =>
    have HY := Lib.hid (hI.out.sync ho)
    rw [HY.out.1] at HC
    go_wp2_with fail
    refine Calls.mono HC.out ?_
    rintro e w1 ⟨rfl, h1, s1⟩
    obtain ⟨a1, a2, a3, a4, a5, a6, b0⟩ := h1.cells
    rw [ho] at b0
    obtain ⟨P, hP⟩ : ∃ P, P = m.wait.length := ⟨_, rfl⟩
    rw [← hP] at b0
    have c2 : w1.cell? ⟨gm, 2, none⟩ = some (.slice a3 P a4) := b0.cell 2
    have c3 : w1.cell? ⟨gm, 3, none⟩ = some (.bool false) := b0.cell 3
    have hP8 : P ≤ 1000 := by rw [hP]; have := hI.out.w; omega
    have p8 : (P : Int) ≤ 1000 := by omega
    have HP := Lib.hid (And.intro hP hP8)
    have HL1 := Lib.hid h1
    clear h1 s1 b0 HC ho hP hP8
    go_wp2_with (at_make; refine wp_make (f := boV) doneB rfl (.tmp 222) (.tmp 222) rfl false rfl w1.heap.size P .i64 .i64 (P : Int) (P : Int) rfl rfl rfl rfl (by have := HP.out.2; omega) (by decide) (Nat.le_refl _) ?_; intro q w2 hq ho2 hb2 hg2; have HQ := Lib.hid (And.intro hq (And.intro (ho2.whole (by simp)) hb2)); clear hq ho2 hb2 hg2 c2 c3)
    go_loopw [22] (fun i wr => ∃ t : Nat, t ≤ P ∧ i = .int .i64 t ∧ Hid (Bk wr q 4 ((List.replicate t true ++ List.replicate (P - t) false).map boV).toArray) ∧ Hid (Below w1.heap.size w1 wr)) (fun i _ => P - (intOf i).toNat)
    case atStart => exact ⟨0, Nat.zero_le _, rfl, Lib.hid (by have := HQ.out.2.1; simpa using this), Lib.hid HQ.out.2.2⟩
    case round =>
      obtain ⟨t, ht, rfl, hbq, hbw⟩ := hrel
      by_cases hlt : t < P
      · have p1 : (0 : Int) ≤ (t : Int) := by omega
        have p2 : (t : Int) < (P : Int) := by omega
        have ct : wr.cell? ⟨q, t, none⟩ = some (.bool false) := by
          rw [hbq.out.cell t]
          simp only [List.getElem?_toArray, List.getElem?_map]
          rw [List.getElem?_append_right (by simp), List.length_replicate, Nat.sub_self, List.getElem?_replicate, if_pos (by omega)]
          rfl
        have ft := hbq.out.free t
        have HN := Lib.hid (show Bk (wr.setCell ⟨q, t, none⟩ (.bool true)) q 4 ((List.replicate (t + 1) true ++ List.replicate (P - (t + 1)) false).map boV).toArray from by
          have := hbq.out.set t (boV true)
          have e : ((List.replicate t true ++ List.replicate (P - t) false).map boV).toArray.setIfInBounds t (boV true) = ((List.replicate (t + 1) true ++ List.replicate (P - (t + 1)) false).map boV).toArray := by
            rw [List.setIfInBounds_toArray, ← List.map_set]
            congr 2
            rw [List.set_append_right _ _ (by simp), List.length_replicate, Nat.sub_self, show P - t = (P - (t + 1)) + 1 by omega, List.replicate_succ, List.set_cons_zero, List.replicate_succ', List.append_assoc]
            rfl
          rw [e] at this
          exact this)
        have HBW := Lib.hid (hbw.out.setCell (p := ⟨q, t, none⟩) (show w1.heap.size ≤ q by have := HQ.out.1; omega) (.bool true))
        clear hbq hbw
        go_wp2_with fail
        go_roundw
        case rel => exact ⟨t + 1, by omega, by go_num, HN, HBW⟩
        case measure => (first | (simp [intOf]; done) | (simp [intOf]; omega))
      · obtain rfl : t = P := by omega
        have hbq2 : Bk wr q 4 ((List.replicate t true).map boV).toArray := by have := hbq.out; rw [Nat.sub_self] at this; simpa using this
        have h2 := HL1.out.below hbw.out
        obtain ⟨a1, a2, a3, a4, a5, a6, b0⟩ := h2.cells
        have c4 : wr.cell? ⟨gm, 4, none⟩ = some (.bool m.armed) := b0.cell 4
        have HM := Lib.hid (lmcut_c h2 hI.out.lim (some ⟨q, 0, none⟩) (List.replicate t true) t t (by simp) (hbq2.rd rfl hbq2.lt) (by have := HP.out.2; omega))
        clear hbq hbw hbq2 h2 b0 hlt
        go_wp2_with fail
        refine Calls.mono HM.out ?_
        rintro e w3 ⟨rfl, h3, s3⟩
        obtain ⟨a1, a2, a3, a4, a5, a6, b3⟩ := h3.cells
        have d3 : w3.cell? ⟨gm, 3, none⟩ = some (.bool true) := b3.cell 3
        have r3 := b3.free 3
        obtain ⟨h4, s4⟩ := h3.set 3 (.bool false) { m.cut (List.replicate t true) with off := false } rfl rfl rfl rfl (fun _ _ _ _ _ _ => rfl)
        have b4 := b3.set 3 (.bool false)
        have d4 : (w3.setCell ⟨gm, 3, none⟩ (.bool false)).cell? ⟨gm, 4, none⟩ = some (.bool false) := b4.cell 4
        have r4 := b4.free 4
        obtain ⟨h5, s5⟩ := h4.set 4 (.bool m.armed) m.sync rfl (by show cutK _ _ _ _ = cutK _ _ _ _; rw [HP.out.1]) rfl rfl (fun _ _ _ _ _ _ => by rw [HP.out.1]; rfl)
        have HF := Lib.hid h5.drop
        clear h3 s3 b3 h4 s4 b4 h5 s5 HM c4
        go_wp2_with fail
        go_meet
        case rel => exact ⟨g1, _, m.sync, rfl, HF, Lib.hid (HY.out.2.more (by omega) (by omega))⟩
end Go.Proofs.Ytfcbmdmkdjaoaaa
