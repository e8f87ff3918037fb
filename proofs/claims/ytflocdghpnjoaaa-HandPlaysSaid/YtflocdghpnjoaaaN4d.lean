/- HandPlays, one way through a round: d. Conditions: those of the round. -/
import Derived.Test.YtflocdghpnjoaaaPlD
import Derived.Test.YtflocdghpnjoaaaPlE
import Derived.Deep.CutRange
import Derived.Deep.CutBlock
import Derived.Deep.Light
import Derived.Test.YtflocdghpnjoaaaFrame
import Derived.Test.YtflocdghpnjoaaaPlF
namespace Go.Proofs.Ytflocdghpnjoaaa
set_option linter.unusedVariables false
set_option linter.unusedSimpArgs false
open Go.RowKit Go.Maps
set_option maxHeartbeats 20000000
set_option maxRecDepth 100000
theorem plays_arm_d (w : Go.World)
    (acts : List Go.Proofs.Ytflocdghpnjoaaa.A20)
    (c : Nat)
    (x : Int)
    (HXW : Go.RowKit.Hid ((Go.Lit.int Go.IntKind.i64 x).wf = Bool.true))
    (M : Nat)
    (HM : Go.RowKit.Hid (M = acts.length))
    (q1 : (↑M : Int) ≤ (100 : Int))
    (w1 : Go.World)
    (HB1 : Go.RowKit.Hid (Go.RowKit.Below w.heap.size w w1))
    (w2 : Go.World)
    (g0 : Nat)
    (HS0 : Go.RowKit.Hid
    (Go.Proofs.Ytflocdghpnjoaaa.St w1.heap.size (fun x => False) w2 g0 (Go.Value.slice Option.none (0 : Nat) (0 : Nat))
      [] [] (0 : Nat)))
    (HB0 : Go.RowKit.Hid (Go.RowKit.Below w1.heap.size w1 w2))
    (wr : Go.World)
    (u4 u9 u10 u11 u12 u13 u14 u15 u16 u17 u18 u19 u20 u21 u22 u23 u24 u25 u35 u36 u37 u38 u39 u40 u41 u42 u43 u44 u45 u46 u47 u48 u49 u50 u51 u52 u53 u54 u55 u56 u57 u58 u59 u60 u61 u62 u63 u64 u65 u66 u67 u68 u69 u70 u71 u72 u73 u74 u75 u76 u77 u78 u79 u80 u81 u82 u83 u84 u85 u86 u87 u88 u89 u90 u91 u92 u93 u94 u95 u96 u97 u98 u99 u100 u101 u102 u103 u104 u105 u106 u107 u108 u109 u110 u111 u112 u113 u114 u115 u116 u117 u118 u119 u120 u121 u122 u123 u124 u125 u126 u127 u128 u129 u130 u131 u132 u133 u134 u135 u136 u137 u138 u139 u140 u141 u142 u143 u144 u145 u146 u147 u148 u149 u150 u151 u152 u153 u154 u155 u156 u157 u158 u159 u160 u161 u162 u163 u164 u165 u166 u167 u168 u169 u170 u171 u172 u173 u174 u175 u176 u177 u178 u179 u180 u181 u182 u183 u184 u185 u186 u187 u188 u189 u190 u191 u192 u193 u194 u195 u196 u197 u198 u199 u200 u201 u202 u203 u204 u205 u206 u207 u208 u209 u210 u211 u212 u213 u214 u215 u216 u217 u218 u219 u220 u221 u222 u223 u224 u225 u226 u227 u228 u229 u230 u231 u232 u233 u234 u235 u236 u237 u238 u239 u240 u241 u242 u243 u244 u245 u246 u247 u248 u249 u250 u251 u252 u253 u254 u255 u256 u257 u258 : Go.Value)
    (k g last : Nat)
    (l : List (Int × Int))
    (hk : k ≤ M)
    (hlk : Go.RowKit.Hid (last ≤ k ∧ l.length ≤ k))
    (hB : Go.RowKit.Hid (Go.RowKit.Below w1.heap.size w1 wr))
    (AR : Option Go.Addr)
    (cR : Nat)
    (hcM : cR ≤ Go.maxLen)
    (N : Nat)
    (hS : Go.RowKit.Hid (Go.Proofs.Ytflocdghpnjoaaa.St w1.heap.size (fun x => False) wr g (Go.Value.slice AR N cR) l l last))
    (HN : Go.RowKit.Hid (N = l.length))
    (q2 : (↑N : Int) ≤ (100 : Int))
    (q3 : (↑last : Int) ≤ (100 : Int))
    (HBW : Go.RowKit.Hid (Go.RowKit.Below w.heap.size w wr))
    (hlt : k < M)
    (p1 : (0 : Int) ≤ (↑k : Int))
    (p2 : (↑k : Int) < (↑M : Int))
    (ad : Go.Addr)
    (HA : Go.RowKit.Hid (Go.Proofs.Ytflocdghpnjoaaa.A20s w w.heap.size (Option.some ad) acts))
    (n : Int)
    (ta : Option Go.Addr)
    (tO : List Int)
    (tc : Nat)
    (m2 : wr.cell? { block := (ad.add (k * (3 : Nat))).block, off := (ad.add (k * (3 : Nat))).off + (1 : Nat) } =
    Option.some (Go.Value.int Go.IntKind.i64 n))
    (HTO : Go.RowKit.Hid
    (Go.Proofs.Ytflocdghpnjoaaa.Rd Go.Proofs.Ytflocdghpnjoaaa.i64 wr w.heap.size ta tO ∧
      (∀ (y : Int), y ∈ tO → (Go.Lit.int Go.IntKind.i64 y).wf = Bool.true) ∧
        (Go.Lit.int Go.IntKind.i64 n).wf = Bool.true ∧ tc ≤ Go.maxLen))
    (hz1 : (-9223372036854775808 : Int) ≤ n ∧ n ≤ (9223372036854775807 : Int))
    (nt : Nat)
    (m4 : nt ≤ tc)
    (m3 : wr.cell? { block := (ad.add (k * (3 : Nat))).block, off := (ad.add (k * (3 : Nat))).off + (2 : Nat) } =
    Option.some (Go.Value.slice ta nt tc))
    (HNT : Go.RowKit.Hid (nt = tO.length))
    (h60 : ¬(60 : Nat) < nt)
    (q4 : (↑nt : Int) ≤ (60 : Int))
    (HCR : Go.RowKit.Hid (N ≤ cR))
    (HH0 : Nat)
    (J0 K0 : Go.Act → Go.World → Prop)
    (hJ0 : ∀ (a' : Go.Act) (w' : Go.World), plays_rel c x M w1 g0 u23 u24 u25 k ad HH0 a' w' → J0 a' w')
    (hK0 : ∀ (a' : Go.Act) (w' : Go.World), Go.Met J0 a' w' → K0 a' w')
    (m1 : wr.cell? (ad.add (k * (3 : Nat))) = Option.some (Go.Value.int Go.IntKind.i64 (4 : Int)))
    (hz0 : (-9223372036854775808 : Int) ≤ (4 : Int) ∧ (4 : Int) ≤ (9223372036854775807 : Int))
    (HBA : Go.RowKit.Hid
    (Go.RowKit.Below w1.heap.size w1
      (wr.alloc
        (Go.Obj.cells #[Go.Value.int Go.IntKind.i64 (4 : Int), Go.Value.int Go.IntKind.i64 n, Go.Value.slice ta nt tc]
          (29 : Go.TypeId)))))
    (HBK : Go.RowKit.Hid
    (Go.Proofs.Ytflocdghpnjoaaa.Bk
      (wr.alloc
        (Go.Obj.cells #[Go.Value.int Go.IntKind.i64 (4 : Int), Go.Value.int Go.IntKind.i64 n, Go.Value.slice ta nt tc]
          (29 : Go.TypeId)))
      HH0 (29 : Go.TypeId)
      #[Go.Value.int Go.IntKind.i64 (4 : Int), Go.Value.int Go.IntKind.i64 n, Go.Value.slice ta nt tc]))
    (HSA : Go.RowKit.Hid
    (Go.Proofs.Ytflocdghpnjoaaa.St w1.heap.size (fun k => k = HH0)
      (wr.alloc
        (Go.Obj.cells #[Go.Value.int Go.IntKind.i64 (4 : Int), Go.Value.int Go.IntKind.i64 n, Go.Value.slice ta nt tc]
          (29 : Go.TypeId)))
      g (Go.Value.slice AR N cR) l l last)) (Q0 : Go.Exit → Go.Act → Go.World → Prop) :
    Go.Code.wp Go.Proofs.Try.prog (blkIn Try.f3 2) (Go.Exit.then K0 Q0)
    {
      tmps :=
        #[Go.Value.slice (Option.some ad) M c, Go.Value.int Go.IntKind.i64 x, Go.undef, Go.undef, u4,
          Go.Value.pointer (Option.some { block := g, off := (0 : Nat) }), Go.Value.slice AR N cR,
          Go.Value.int Go.IntKind.i64 (↑last : Int), Go.Value.int Go.IntKind.i64 (↑k : Int),
          Go.Value.pointer (Option.some { block := HH0, off := (0 : Nat) }), u10, u11, u12, u13, u14, u15, u16, u17,
          u18, u19, u20, u21, u22, u23, u24, u25, Go.undef, Go.undef, Go.undef, Go.Value.bool Bool.true,
          Go.Value.bool Bool.false, Go.Value.slice (Option.some ad) M c, Go.Value.int Go.IntKind.i64 (↑M : Int),
          Go.Value.bool (Decidable.decide ((100 : Int) < (↑M : Int))),
          Go.Value.pointer (Option.some { block := g0, off := (0 : Nat) }), Go.Value.int Go.IntKind.i64 (↑k : Int),
          Go.Value.slice (Option.some ad) M c, Go.Value.int Go.IntKind.i64 (↑M : Int), Go.Value.bool Bool.true, u39,
          u40, Go.Value.slice (Option.some ad) M c, Go.Value.int Go.IntKind.i64 (↑k : Int),
          Go.Value.pointer (Option.some (ad.add (k * (3 : Nat)))),
          Go.Value.agg #[Go.Value.int Go.IntKind.i64 (4 : Int), Go.Value.int Go.IntKind.i64 n, Go.Value.slice ta nt tc],
          Go.Value.pointer (Option.some { block := HH0, off := (2 : Nat) }), Go.Value.slice ta nt tc,
          Go.Value.int Go.IntKind.i64 (↑nt : Int), Go.Value.bool (Decidable.decide ((60 : Int) < (↑nt : Int))),
          Go.Value.pointer (Option.some { block := HH0, off := (0 : Nat) }), Go.Value.int Go.IntKind.i64 (4 : Int), u51,
          u52, u53, u54, u55, u56, u57, u58, u59, u60, u61, u62, u63, u64, u65, u66, u67, u68, u69, u70, u71, u72, u73,
          u74, u75, u76, u77, u78, u79, u80, u81, u82, u83, u84, u85, u86, u87, u88, u89, u90, u91, u92, u93, u94, u95,
          u96, u97, u98, u99, u100, u101, u102, u103, u104, u105, u106, u107, u108, u109, u110, u111, u112, u113, u114,
          u115, u116, u117, u118, u119, u120, u121, u122, u123, u124, u125, u126, u127, u128, u129, u130, u131, u132,
          u133, u134, u135, u136, u137, u138, u139, u140, u141, u142, u143, u144, u145, u146, u147, u148, u149, u150,
          u151, u152, u153, u154, u155, u156, u157, u158, u159, u160, u161, u162, u163, u164, u165, u166, u167, u168,
          u169, u170, u171, u172, u173, u174, u175, u176, u177, u178, u179, u180, u181, u182, u183, u184, u185, u186,
          u187, u188, u189, u190, u191, u192, u193, u194, u195, u196, u197, u198, u199, u200, u201, u202, u203, u204,
          u205, u206, u207, u208, u209, u210, u211, u212, u213, u214, u215, u216, u217, u218, u219, u220, u221, u222,
          u223, u224, u225, u226, u227, u228, u229, u230, u231, u232, u233, u234, u235, u236, u237, u238, u239, u240,
          u241, u242, u243, u244, u245, u246, u247, u248, u249, u250, u251, u252, u253, u254, u255, u256, u257, u258,
          Go.undef, Go.undef, Go.undef, Go.undef, Go.undef, Go.undef, Go.undef, Go.undef, Go.undef, Go.undef, Go.undef,
          Go.undef, Go.undef, Go.undef, Go.undef, Go.undef, Go.undef, Go.undef, Go.undef, Go.undef, Go.undef, Go.undef,
          Go.undef, Go.undef, Go.undef, Go.undef, Go.undef, Go.undef, Go.undef, Go.undef, Go.undef, Go.undef, Go.undef,
          Go.undef],
      defers := [] }
    (wr.alloc
      (Go.Obj.cells #[Go.Value.int Go.IntKind.i64 (4 : Int), Go.Value.int Go.IntKind.i64 n, Go.Value.slice ta nt tc]
        (29 : Nat))) := by
  conv => arg 2; whnf
  have hs3 := HSA.out.hB
  obtain ⟨W0, hW0⟩ : ∃ x, x = wr.alloc (.cells #[.int .i64 4, .int .i64 n, .slice ta nt tc] 29) := ⟨_, rfl⟩
  have HH := Lib.hid (show HH0 < W0.heap.size from by rw [hW0]; exact HBK.out.lt)
  have HWW := Lib.hid (show Below w.heap.size wr W0 ∧ w.heap.size ≤ W0.heap.size from by rw [hW0]; exact ⟨(Gw.alloc wr _).mono HBW.out.size, Nat.le_trans HBW.out.size (by simp)⟩)
  obtain ⟨d0, d1⟩ := And.intro (HBK.out.cell 0) (HBK.out.cell 1)
  have HD2 := Lib.hid (show W0.cell? ⟨HH0, 2, none⟩ = some (.slice ta nt tc) from by rw [hW0]; exact HBK.out.cell 2)
  have HFA := Lib.hid HSA.out.tab.facts
  go_wp2_with fail
  rw [← hW0] at HSA HBA ⊢
  clear hW0 d0 d1 HBK hS
  go_loopw [19, 20] (fun sv i wz => ∃ j : Nat, j ≤ N ∧ i = .int .i64 j ∧ Hid (PR wz W0.heap.size sv (renL tO (l.take j))) ∧ Hid (Below W0.heap.size W0 wz)) (fun _ i _ => N - (intOf i).toNat)
  case atStart => exact ⟨0, Nat.zero_le _, rfl, Lib.hid (PR.nil _ _), Lib.hid (Below.refl _ _)⟩
  case round =>
    obtain ⟨j, hj, rfl, hP, hBz⟩ := hrel
    by_cases hlj : j < N
    · have p5 : (0 : Int) ≤ (j : Int) := by omega
      have p6 : (j : Int) < (N : Int) := by omega
      have hjl : j < l.length := by rw [← HN.out]; exact hlj
      obtain ⟨q, rfl, _, hq, c1, c2⟩ := (HSA.out.row.below hBz.out).at_ j hjl
      have hy0 := HFA.out.2.1 _ (List.getElem_mem hjl)
      have hsn : l.take (j + 1) = l.take j ++ [l[j]] := List.take_succ_eq_append_getElem hjl
      obtain ⟨y1, hy1⟩ : ∃ y, y = l[j].1 := ⟨_, rfl⟩
      obtain ⟨y2, hy2⟩ : ∃ y, y = l[j].2 := ⟨_, rfl⟩
      have hlp : l[j] = (y1, y2) := Prod.ext hy1.symm hy2.symm
      rw [hlp] at hsn
      rw [← hy1] at c1
      rw [← hy2] at c2
      have hy3 : (1 : Int) ≤ y2 := by rw [hy2]; exact hy0.2.2.1
      have hy4 : y2 ≤ 9223372036854775807 := by rw [hy2]; exact hy0.2.2.2
      have e2 : wr.cell? ⟨HH0, 2, none⟩ = some (.slice ta nt tc) := (hBz.out.cell (p := ⟨HH0, 2, none⟩) HH.out).trans HD2.out
      have HSN := Lib.hid hsn
      clear hy0 hy1 hy2 hlp hsn hs3
      by_cases hA : (nt : Int) < y2
      · have tA : decide (y2 ≤ (nt : Int)) = false := by simp; omega
        have HR := Lib.hid (show renF tO (y1, y2) = none from by unfold renF; rw [if_pos (by rw [← HNT.out]; exact hA)])
        clear hA
        go_wp2_with fail
        go_roundw
        case rel => exact ⟨j + 1, by omega, by go_num, Lib.hid (by rw [HSN.out, ren_snoc_none HR.out]; exact hP.out), hBz⟩
        case measure => (first | (simp [intOf]; done) | (simp [intOf]; omega))
      · obtain ⟨m, hm⟩ : ∃ m : Nat, y2 = (m : Int) + 1 := ⟨(y2 - 1).toNat, by omega⟩
        subst hm
        have hmt : m < tO.length := by rw [← HNT.out]; omega
        obtain ⟨ad2, rfl, hb2, c3⟩ := HTO.out.1 m hmt
        obtain ⟨z, hz⟩ : ∃ z, z = tO[m] := ⟨_, rfl⟩
        have hgd : tO.getD m 0 = z := by rw [List.getD_eq_getElem?_getD, List.getElem?_eq_getElem hmt, hz]; rfl
        have c4 : wr.cell? (ad2.add m) = some (.int .i64 z) := by
          have hw := HWW.out.1.trans (hBz.out.mono HWW.out.2)
          rw [hw.cell (by rw [add_block]; exact hb2), c3, hz]
          rfl
        have tA : decide ((m : Int) + 1 ≤ (nt : Int)) = true := by simp; omega
        have q5 : (0 : Int) ≤ (m : Int) := by omega
        have q6 : (m : Int) < (nt : Int) := by omega
        have hre : renF tO (y1, (m : Int) + 1) = if z < 1 then none else some (y1, z) := by
          unfold renF
          rw [if_neg (by rw [← HNT.out]; simp only; omega)]
          simp only [Int.add_sub_cancel, Int.toNat_natCast, hgd]
        have HZW := Lib.hid (HTO.out.2.1 z (by rw [hz]; exact List.getElem_mem hmt))
        have HRE := Lib.hid hre
        have HB2 := Lib.hid (Nat.lt_of_lt_of_le hb2 HWW.out.2)
        have HQ0 := Lib.hid (show q < W0.heap.size from by
          obtain ⟨q', e, _, h, _⟩ := HSA.out.row.at_ j hjl
          injection e with e; injection e with e; omega)
        clear hz hgd hre c3 hmt hy3 hy4 hb2
        by_cases hz1 : z < 1
        · have tz : decide ((0 : Int) < z) = false := by simp; omega
          have HR := Lib.hid (show renF tO (y1, (m : Int) + 1) = none from by rw [HRE.out, if_pos hz1])
          clear hz1 hA
          go_wp2_with fail
          go_roundw
          case rel => exact ⟨j + 1, by omega, by go_num, Lib.hid (by rw [HSN.out, ren_snoc_none HR.out]; exact hP.out), hBz⟩
          case measure => (first | (simp [intOf]; done) | (simp [intOf]; omega))
        · have tz : decide ((0 : Int) < z) = true := by simp; omega
          have HR := Lib.hid (show renF tO (y1, (m : Int) + 1) = some (y1, z) from by rw [HRE.out, if_neg hz1])
          clear hz1 hA
          go_wp2_with fail
          have hcc := And.intro c1 (And.intro e2 c4)
          refine region_by_spine [13, 14, 15] [(0, 190, u19), (1, 191, .slice (some ⟨q, 0, none⟩) N cR), (2, 192, .int .i64 j), (3, 193, .pointer (some ⟨q, j * 2, none⟩)), (4, 194, .pointer (some ⟨q, j * 2, none⟩)), (5, 195, .int .i64 y1), (6, 196, .pointer (some ⟨HH0, 2, none⟩)), (7, 197, .slice (some ad2) nt tc), (8, 198, .int .i64 ((m : Int) + 1)), (9, 199, .int .i64 m), (10, 200, .pointer (some (ad2.add m))), (11, 201, .int .i64 z), (12, 202, .agg #[.int .i64 y1, .int .i64 z])]
            (fun W => W.cell? ⟨q, j * 2, none⟩ = some (.int .i64 y1) ∧ W.cell? ⟨HH0, 2, none⟩ = some (.slice (some ad2) nt tc) ∧ W.cell? (ad2.add m) = some (.int .i64 z)) (by kernel_rfl) (by kernel_rfl) (by kernel_rfl) (by kernel_rfl) (by kernel_rfl) hcc ?_ ?_
          · intro y hy V ρ hV hρ hcst
            obtain ⟨k1, k2, k3⟩ := hV
            have x6 : ρ (.tmp 6) = .slice (some ⟨q, 0, none⟩) N cR := (hρ 6).trans (by kernel_rfl)
            have x9 : ρ (.tmp 9) = .pointer (some ⟨HH0, 0, none⟩) := (hρ 9).trans (by kernel_rfl)
            have x19 : ρ (.tmp 19) = u19 := (hρ 19).trans (by kernel_rfl)
            have x20 : ρ (.tmp 20) = .int .i64 j := (hρ 20).trans (by kernel_rfl)
            have x21 : ρ (.tmp 21) = .int .i64 ((m : Int) + 1) := (hρ 21).trans (by kernel_rfl)
            have x191 : ρ (.tmp 191) = .slice (some ⟨q, 0, none⟩) N cR := (hρ 191).trans (by kernel_rfl)
            have x192 : ρ (.tmp 192) = .int .i64 j := (hρ 192).trans (by kernel_rfl)
            have x193 : ρ (.tmp 193) = .pointer (some ⟨q, j * 2, none⟩) := (hρ 193).trans (by kernel_rfl)
            have x194 : ρ (.tmp 194) = .pointer (some ⟨q, j * 2, none⟩) := (hρ 194).trans (by kernel_rfl)
            have x195 : ρ (.tmp 195) = .int .i64 y1 := (hρ 195).trans (by kernel_rfl)
            have x196 : ρ (.tmp 196) = .pointer (some ⟨HH0, 2, none⟩) := (hρ 196).trans (by kernel_rfl)
            have x197 : ρ (.tmp 197) = .slice (some ad2) nt tc := (hρ 197).trans (by kernel_rfl)
            have x198 : ρ (.tmp 198) = .int .i64 ((m : Int) + 1) := (hρ 198).trans (by kernel_rfl)
            have x199 : ρ (.tmp 199) = .int .i64 m := (hρ 199).trans (by kernel_rfl)
            have x200 : ρ (.tmp 200) = .pointer (some (ad2.add m)) := (hρ 200).trans (by kernel_rfl)
            have x201 : ρ (.tmp 201) = .int .i64 z := (hρ 201).trans (by kernel_rfl)
            clear hρ
            simp only [List.mem_cons, List.not_mem_nil, or_false] at hy
            rcases hy with rfl | rfl | rfl | rfl | rfl | rfl | rfl | rfl | rfl | rfl | rfl | rfl | rfl
            all_goals
              refine ⟨_, rfl, ?_⟩
              go_simp
              try (first | rfl | exact IntWalk.i64_in _ (by omega))
          simp only [putA, putD, Act.put, List.setIfInBounds_toArray, List.set_cons_zero, List.set_cons_succ]
          refine spine_list rfl rfl rfl ?_
          go_wp2_with fail
          have hb5 := Gw.alloc wr (.cells #[.int .i64 y1, .int .i64 z] 31)
          have hc5 := And.intro ((hb5.cell (p := ⟨q, j * 2, none⟩) hq).trans c1) (And.intro ((hb5.cell (p := ⟨HH0, 2, none⟩) (Nat.lt_of_lt_of_le HH.out hBz.out.size)).trans e2) ((hb5.cell (p := ad2.add m) (by rw [add_block]; exact Nat.lt_of_lt_of_le HB2.out hBz.out.size)).trans c4))
          have hp5 : PR (wr.alloc (.cells #[.int .i64 y1, .int .i64 z] 31)) W0.heap.size u19 _ := hP.out.below hb5
          have hr5 : RdP (wr.alloc (.cells #[.int .i64 y1, .int .i64 z] 31)) (some ⟨wr.heap.size, 0, none⟩) [(y1, z)] := PR.ofB (y1, z) (Bk.new wr _ _)
          have hz5 : W0.heap.size ≤ (wr.alloc (.cells #[.int .i64 y1, .int .i64 z] 31)).heap.size := Nat.le_trans hBz.out.size hb5.size
          have hl5 : (renL tO (l.take j)).length + [(y1, z)].length ≤ 100000 := by have h1 := ren_len tO (l.take j); rw [List.length_take] at h1; simp only [List.length_cons, List.length_nil]; omega
          refine ⟨rfl, hc5, ?_⟩
          refine spine_list rfl rfl rfl ?_
          refine wp_appP rfl (.tmp 190) (.tmp 203) rfl rfl (show PR (wr.alloc (.cells #[.int .i64 y1, .int .i64 z] 31)).drew W0.heap.size u19 _ from hp5) (some ⟨wr.heap.size, 0, none⟩) 1 1 [(y1, z)] rfl rfl (show RdP (wr.alloc (.cells #[.int .i64 y1, .int .i64 z] 31)).drew _ _ from hr5) hl5 hz5 ?_
          intro v5 w5 ho5 hb6 hg5 hv5
          have hbb : Below W0.heap.size W0 w5 := hBz.out.trans (((hb5.mono hBz.out.size).trans ((Gw.drew _).mono hz5)).trans hb6)
          have hc6 := And.intro ((hbb.cell (p := ⟨q, j * 2, none⟩) HQ0.out).trans (((hBz.out.cell (p := ⟨q, j * 2, none⟩) HQ0.out).symm).trans c1)) (And.intro ((hbb.cell (p := ⟨HH0, 2, none⟩) HH.out).trans HD2.out) ((hbb.cell (p := ad2.add m) (by rw [add_block]; exact HB2.out)).trans (((hBz.out.cell (p := ad2.add m) (by rw [add_block]; exact HB2.out)).symm).trans c4)))
          refine ⟨rfl, hc6, ?_⟩
          refine spine_list rfl rfl rfl ?_
          have HO5 := Lib.hid ho5
          have HBB := Lib.hid hbb
          have HC6 := Lib.hid hc6
          clear hb5 hc5 hp5 hr5 hz5 hl5 ho5 hb6 hg5 hv5 hbb hc6 c1 e2 c4 hcc
          go_wp2_with fail
          refine ⟨rfl, HC6.out, ?_⟩
          unfold SpineW
          go_wp2_with fail
          go_roundw
          case rel => exact ⟨j + 1, by omega, by go_num, Lib.hid (by rw [HSN.out, ren_snoc_some HR.out]; exact HO5.out), HBB⟩
          case measure => (first | (simp [intOf]; done) | (simp [intOf]; omega))
    · obtain rfl : j = N := by omega
      have hP2 := hP.out
      rw [List.take_of_length_le (by rw [← HN.out]; omega)] at hP2
      obtain ⟨A6, c6, rfl, _⟩ := hP2.slice
      have H6 := Lib.hid (HSA.out.rowTo hBz.out hP2)
      have hrl := ren_len tO l
      have hrd : Rd i64 wr wr.heap.size ta tO := (HTO.out.1.below (HWW.out.1.trans (hBz.out.mono HWW.out.2))).more (Nat.le_trans HWW.out.2 hBz.out.size)
      have hrn := hren_x H6.out.tab ta tc tO hrd (fun h0 ad e => by
        obtain ⟨a, e1, hb, _⟩ := HTO.out.1 0 h0
        rw [e1] at e
        injection e with e
        subst e
        exact .inl (Nat.lt_of_lt_of_le hb HB1.out.size)) (by rw [← HNT.out]; omega) (fun x hx => (wf64 (HTO.out.2.1 x hx)).2)
      rw [← HNT.out] at hrn
      obtain ⟨N2, hN2⟩ : ∃ x, x = (renL tO l).length := ⟨_, rfl⟩
      obtain ⟨G, hG⟩ : ∃ G, G = l.length - (renL tO l).length := ⟨_, rfl⟩
      rw [← hG] at hrn
      rw [← hN2] at hP2 H6 hrn ⊢
      have tg : (((G : Int)) != (j : Int) - (N2 : Int)) = false := by have := HN.out; simp; omega
      have HN2 := Lib.hid hN2
      have q8 : (N2 : Int) ≤ 100 := by have := HN.out; omega
      have HRN := Lib.hid hrn
      have HZ6 := Lib.hid H6.out.hB
      have HB6 := Lib.hid (HBA.out.trans (hBz.out.mono HSA.out.hB))
      have HL := Lib.hid (show last ≤ k + 1 ∧ (renL tO l).length ≤ k + 1 from by have := hlk.out; omega)
      obtain ⟨l2, hl2⟩ : ∃ x, x = renL tO l := ⟨_, rfl⟩
      rw [← hl2] at HRN H6 HL HN2
      clear hrd hrn hrl hP2 hG hN2 hl2 hP hs3
      have e2 : wr.cell? ⟨HH0, 2, none⟩ = some (.slice ta nt tc) := (hBz.out.cell (p := ⟨HH0, 2, none⟩) HH.out).trans HD2.out
      go_wp2_with fail
      refine Calls.mono HRN.out ?_
      rintro e wt he
      have HS := Lib.hid (H6.out.tb he)
      have HB := Lib.hid (HB6.out.trans (he.bel HZ6.out))
      obtain rfl := he.1
      clear he HRN H6 HSA HWW hlk
      go_wp2_with fail
      go_meet
      case rel => exact ⟨g, last, l2, rfl, rfl, HL, Lib.hid HS.out.drop, HB⟩
end Go.Proofs.Ytflocdghpnjoaaa
