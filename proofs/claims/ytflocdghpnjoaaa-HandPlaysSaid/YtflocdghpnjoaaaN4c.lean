/- HandPlays, one way through a round: c. Conditions: those of the round. -/
import Derived.Test.YtflocdghpnjoaaaPlD
import Derived.Test.YtflocdghpnjoaaaPlE
import Derived.Deep.CutRange
import Derived.Deep.CutBlock
import Derived.Deep.Light
import Derived.Test.YtflocdghpnjoaaaFrame
import Derived.Test.YtflocdghpnjoaaaPlF
namespace Go.Proofs.Ytflocdghpnjoaaa
set_option linter.unusedVariables false
set_option linter.unusedSimpArgs false
open Go.RowKit Go.Maps
set_option maxHeartbeats 20000000
set_option maxRecDepth 100000
theorem plays_arm_c (w : Go.World)
    (acts : List Go.Proofs.Ytflocdghpnjoaaa.A20)
    (c : Nat)
    (x : Int)
    (HXW : Go.RowKit.Hid ((Go.Lit.int Go.IntKind.i64 x).wf = Bool.true))
    (M : Nat)
    (HM : Go.RowKit.Hid (M = acts.length))
    (q1 : (↑M : Int) ≤ (100 : Int))
    (w1 : Go.World)
    (HB1 : Go.RowKit.Hid (Go.RowKit.Below w.heap.size w w1))
    (w2 : Go.World)
    (g0 : Nat)
    (HS0 : Go.RowKit.Hid
    (Go.Proofs.Ytflocdghpnjoaaa.St w1.heap.size (fun x => False) w2 g0 (Go.Value.slice Option.none (0 : Nat) (0 : Nat))
      [] [] (0 : Nat)))
    (HB0 : Go.RowKit.Hid (Go.RowKit.Below w1.heap.size w1 w2))
    (wr : Go.World)
    (u4 u9 u10 u11 u12 u13 u14 u15 u16 u17 u18 u19 u20 u21 u22 u23 u24 u25 u35 u36 u37 u38 u39 u40 u41 u42 u43 u44 u45 u46 u47 u48 u49 u50 u51 u52 u53 u54 u55 u56 u57 u58 u59 u60 u61 u62 u63 u64 u65 u66 u67 u68 u69 u70 u71 u72 u73 u74 u75 u76 u77 u78 u79 u80 u81 u82 u83 u84 u85 u86 u87 u88 u89 u90 u91 u92 u93 u94 u95 u96 u97 u98 u99 u100 u101 u102 u103 u104 u105 u106 u107 u108 u109 u110 u111 u112 u113 u114 u115 u116 u117 u118 u119 u120 u121 u122 u123 u124 u125 u126 u127 u128 u129 u130 u131 u132 u133 u134 u135 u136 u137 u138 u139 u140 u141 u142 u143 u144 u145 u146 u147 u148 u149 u150 u151 u152 u153 u154 u155 u156 u157 u158 u159 u160 u161 u162 u163 u164 u165 u166 u167 u168 u169 u170 u171 u172 u173 u174 u175 u176 u177 u178 u179 u180 u181 u182 u183 u184 u185 u186 u187 u188 u189 u190 u191 u192 u193 u194 u195 u196 u197 u198 u199 u200 u201 u202 u203 u204 u205 u206 u207 u208 u209 u210 u211 u212 u213 u214 u215 u216 u217 u218 u219 u220 u221 u222 u223 u224 u225 u226 u227 u228 u229 u230 u231 u232 u233 u234 u235 u236 u237 u238 u239 u240 u241 u242 u243 u244 u245 u246 u247 u248 u249 u250 u251 u252 u253 u254 u255 u256 u257 u258 : Go.Value)
    (k g last : Nat)
    (l : List (Int × Int))
    (hk : k ≤ M)
    (hlk : Go.RowKit.Hid (last ≤ k ∧ l.length ≤ k))
    (hB : Go.RowKit.Hid (Go.RowKit.Below w1.heap.size w1 wr))
    (AR : Option Go.Addr)
    (cR : Nat)
    (hcM : cR ≤ Go.maxLen)
    (N : Nat)
    (hS : Go.RowKit.Hid (Go.Proofs.Ytflocdghpnjoaaa.St w1.heap.size (fun x => False) wr g (Go.Value.slice AR N cR) l l last))
    (HN : Go.RowKit.Hid (N = l.length))
    (q2 : (↑N : Int) ≤ (100 : Int))
    (q3 : (↑last : Int) ≤ (100 : Int))
    (HBW : Go.RowKit.Hid (Go.RowKit.Below w.heap.size w wr))
    (hlt : k < M)
    (p1 : (0 : Int) ≤ (↑k : Int))
    (p2 : (↑k : Int) < (↑M : Int))
    (ad : Go.Addr)
    (HA : Go.RowKit.Hid (Go.Proofs.Ytflocdghpnjoaaa.A20s w w.heap.size (Option.some ad) acts))
    (n : Int)
    (ta : Option Go.Addr)
    (tO : List Int)
    (tc : Nat)
    (m2 : wr.cell? { block := (ad.add (k * (3 : Nat))).block, off := (ad.add (k * (3 : Nat))).off + (1 : Nat) } =
    Option.some (Go.Value.int Go.IntKind.i64 n))
    (HTO : Go.RowKit.Hid
    (Go.Proofs.Ytflocdghpnjoaaa.Rd Go.Proofs.Ytflocdghpnjoaaa.i64 wr w.heap.size ta tO ∧
      (∀ (y : Int), y ∈ tO → (Go.Lit.int Go.IntKind.i64 y).wf = Bool.true) ∧
        (Go.Lit.int Go.IntKind.i64 n).wf = Bool.true ∧ tc ≤ Go.maxLen))
    (hz1 : (-9223372036854775808 : Int) ≤ n ∧ n ≤ (9223372036854775807 : Int))
    (nt : Nat)
    (m4 : nt ≤ tc)
    (m3 : wr.cell? { block := (ad.add (k * (3 : Nat))).block, off := (ad.add (k * (3 : Nat))).off + (2 : Nat) } =
    Option.some (Go.Value.slice ta nt tc))
    (HNT : Go.RowKit.Hid (nt = tO.length))
    (h60 : ¬(60 : Nat) < nt)
    (q4 : (↑nt : Int) ≤ (60 : Int))
    (HCR : Go.RowKit.Hid (N ≤ cR))
    (HH0 : Nat)
    (J0 K0 : Go.Act → Go.World → Prop)
    (hJ0 : ∀ (a' : Go.Act) (w' : Go.World), plays_rel c x M w1 g0 u23 u24 u25 k ad HH0 a' w' → J0 a' w')
    (hK0 : ∀ (a' : Go.Act) (w' : Go.World), Go.Met J0 a' w' → K0 a' w')
    (m1 : wr.cell? (ad.add (k * (3 : Nat))) = Option.some (Go.Value.int Go.IntKind.i64 (3 : Int)))
    (hz0 : (-9223372036854775808 : Int) ≤ (3 : Int) ∧ (3 : Int) ≤ (9223372036854775807 : Int))
    (HBA : Go.RowKit.Hid
    (Go.RowKit.Below w1.heap.size w1
      (wr.alloc
        (Go.Obj.cells #[Go.Value.int Go.IntKind.i64 (3 : Int), Go.Value.int Go.IntKind.i64 n, Go.Value.slice ta nt tc]
          (29 : Go.TypeId)))))
    (HBK : Go.RowKit.Hid
    (Go.Proofs.Ytflocdghpnjoaaa.Bk
      (wr.alloc
        (Go.Obj.cells #[Go.Value.int Go.IntKind.i64 (3 : Int), Go.Value.int Go.IntKind.i64 n, Go.Value.slice ta nt tc]
          (29 : Go.TypeId)))
      HH0 (29 : Go.TypeId)
      #[Go.Value.int Go.IntKind.i64 (3 : Int), Go.Value.int Go.IntKind.i64 n, Go.Value.slice ta nt tc]))
    (HSA : Go.RowKit.Hid
    (Go.Proofs.Ytflocdghpnjoaaa.St w1.heap.size (fun k => k = HH0)
      (wr.alloc
        (Go.Obj.cells #[Go.Value.int Go.IntKind.i64 (3 : Int), Go.Value.int Go.IntKind.i64 n, Go.Value.slice ta nt tc]
          (29 : Go.TypeId)))
      g (Go.Value.slice AR N cR) l l last)) (Q0 : Go.Exit → Go.Act → Go.World → Prop) :
    Go.Code.wp Go.Proofs.Try.prog (blkIn Try.f3 2) (Go.Exit.then K0 Q0)
    {
      tmps :=
        #[Go.Value.slice (Option.some ad) M c, Go.Value.int Go.IntKind.i64 x, Go.undef, Go.undef, u4,
          Go.Value.pointer (Option.some { block := g, off := (0 : Nat) }), Go.Value.slice AR N cR,
          Go.Value.int Go.IntKind.i64 (↑last : Int), Go.Value.int Go.IntKind.i64 (↑k : Int),
          Go.Value.pointer (Option.some { block := HH0, off := (0 : Nat) }), u10, u11, u12, u13, u14, u15, u16, u17,
          u18, u19, u20, u21, u22, u23, u24, u25, Go.undef, Go.undef, Go.undef, Go.Value.bool Bool.true,
          Go.Value.bool Bool.false, Go.Value.slice (Option.some ad) M c, Go.Value.int Go.IntKind.i64 (↑M : Int),
          Go.Value.bool (Decidable.decide ((100 : Int) < (↑M : Int))),
          Go.Value.pointer (Option.some { block := g0, off := (0 : Nat) }), Go.Value.int Go.IntKind.i64 (↑k : Int),
          Go.Value.slice (Option.some ad) M c, Go.Value.int Go.IntKind.i64 (↑M : Int), Go.Value.bool Bool.true, u39,
          u40, Go.Value.slice (Option.some ad) M c, Go.Value.int Go.IntKind.i64 (↑k : Int),
          Go.Value.pointer (Option.some (ad.add (k * (3 : Nat)))),
          Go.Value.agg #[Go.Value.int Go.IntKind.i64 (3 : Int), Go.Value.int Go.IntKind.i64 n, Go.Value.slice ta nt tc],
          Go.Value.pointer (Option.some { block := HH0, off := (2 : Nat) }), Go.Value.slice ta nt tc,
          Go.Value.int Go.IntKind.i64 (↑nt : Int), Go.Value.bool (Decidable.decide ((60 : Int) < (↑nt : Int))),
          Go.Value.pointer (Option.some { block := HH0, off := (0 : Nat) }), Go.Value.int Go.IntKind.i64 (3 : Int), u51,
          u52, u53, u54, u55, u56, u57, u58, u59, u60, u61, u62, u63, u64, u65, u66, u67, u68, u69, u70, u71, u72, u73,
          u74, u75, u76, u77, u78, u79, u80, u81, u82, u83, u84, u85, u86, u87, u88, u89, u90, u91, u92, u93, u94, u95,
          u96, u97, u98, u99, u100, u101, u102, u103, u104, u105, u106, u107, u108, u109, u110, u111, u112, u113, u114,
          u115, u116, u117, u118, u119, u120, u121, u122, u123, u124, u125, u126, u127, u128, u129, u130, u131, u132,
          u133, u134, u135, u136, u137, u138, u139, u140, u141, u142, u143, u144, u145, u146, u147, u148, u149, u150,
          u151, u152, u153, u154, u155, u156, u157, u158, u159, u160, u161, u162, u163, u164, u165, u166, u167, u168,
          u169, u170, u171, u172, u173, u174, u175, u176, u177, u178, u179, u180, u181, u182, u183, u184, u185, u186,
          u187, u188, u189, u190, u191, u192, u193, u194, u195, u196, u197, u198, u199, u200, u201, u202, u203, u204,
          u205, u206, u207, u208, u209, u210, u211, u212, u213, u214, u215, u216, u217, u218, u219, u220, u221, u222,
          u223, u224, u225, u226, u227, u228, u229, u230, u231, u232, u233, u234, u235, u236, u237, u238, u239, u240,
          u241, u242, u243, u244, u245, u246, u247, u248, u249, u250, u251, u252, u253, u254, u255, u256, u257, u258,
          Go.undef, Go.undef, Go.undef, Go.undef, Go.undef, Go.undef, Go.undef, Go.undef, Go.undef, Go.undef, Go.undef,
          Go.undef, Go.undef, Go.undef, Go.undef, Go.undef, Go.undef, Go.undef, Go.undef, Go.undef, Go.undef, Go.undef,
          Go.undef, Go.undef, Go.undef, Go.undef, Go.undef, Go.undef, Go.undef, Go.undef, Go.undef, Go.undef, Go.undef,
          Go.undef],
      defers := [] }
    (wr.alloc
      (Go.Obj.cells #[Go.Value.int Go.IntKind.i64 (3 : Int), Go.Value.int Go.IntKind.i64 n, Go.Value.slice ta nt tc]
        (29 : Nat))) := by
  conv => arg 2; whnf
  have hs3 := HSA.out.hB
  obtain ⟨d0, d1⟩ := And.intro (HBK.out.cell 0) (HBK.out.cell 1)
  have HAT := Lib.hid (at_n (wr.alloc (.cells #[.int .i64 3, .int .i64 n, .slice ta nt tc] 29)) w1.heap.size AR cR N l HN.out (by have := HSA.out.row; rw [← HN.out]; exact this) (by have := HN.out; omega) n)
  go_wp2_with fail
  refine Calls.mono HAT.out ?_
  rintro e w3 ⟨b3, h | h⟩
  · obtain ⟨j, hj, rfl, hjn⟩ := h
    have H3 := Lib.hid (HSA.out.below b3)
    have HK3 := Lib.hid (HBK.out.below b3 HBK.out.lt)
    have e1 := HK3.out.cell 1
    have hfa := H3.out.tab.facts
    have hcl := hclose_x H3.out.tab n HTO.out.2.2.1
    rw [show lookI l n = some l[j].2 from by rw [← hjn]; exact hfa.1.look j hj, show offI l n = l.take j ++ l.drop (j + 1) from by rw [← hjn]; exact off_take hfa.1 j hj] at hcl
    simp only [Option.isSome_some] at hcl
    have HCL := Lib.hid hcl
    have p3 : (0 : Int) ≤ (j : Int) := by omega
    have p4 : (j : Int) < (N : Int) := by have := HN.out; omega
    have HB3 := Lib.hid (HBA.out.trans (b3.mono hs3))
    have HZ3 := Lib.hid (Nat.le_trans hs3 b3.size)
    clear hcl hfa b3 hs3 d0 d1 HAT
    go_wp2_with fail
    refine Calls.mono HCL.out ?_
    rintro e w4 he
    have H4 := Lib.hid (H3.out.tb he)
    have HB4 := Lib.hid (HB3.out.trans (he.bel HZ3.out))
    obtain rfl := he.1
    clear he HCL e1
    go_wp2_with fail
    obtain ⟨q, rfl, hqB, hqL, _, _⟩ := H4.out.row.at_ j hj
    obtain ⟨XA, hXA⟩ : ∃ XA : Option Addr, XA = if cR = j + 1 then some ⟨q, 0, none⟩ else some ⟨q, (j + 1) * 2, none⟩ := ⟨_, rfl⟩
    have HXA := Lib.hid hXA
    have HJJ := Lib.hid (show j + 1 ≤ N ∧ j + 1 ≤ cR ∧ ((j : Int) + 1).toNat = j + 1 ∧ IntKind.i64.wrap ((j : Int) + 1) = (j : Int) + 1 from ⟨by omega, by have := HCR.out; omega, by omega, IntWalk.i64_in _ (by omega)⟩)
    clear hXA hqB hqL
    refine region_by_spine [0, 4, 9, 10] [(1, 154, .slice (some ⟨q, 0, none⟩) N cR), (2, 155, .int .i64 j), (3, 156, .slice (some ⟨q, 0, none⟩) j cR), (5, 158, .slice (some ⟨q, 0, none⟩) N cR), (6, 159, .int .i64 j), (7, 160, .int .i64 ((j : Int) + 1)), (8, 161, .slice XA (N - (j + 1)) (cR - (j + 1)))]
      (fun _ => True) (by kernel_rfl) (by kernel_rfl) (by kernel_rfl) (by kernel_rfl) (by kernel_rfl) trivial ?_ ?_
    · intro y hy V ρ hV hρ hcst
      obtain ⟨hjN, hjc, r1, r2⟩ := HJJ.out
      have e6 : ρ (.tmp 6) = .slice (some ⟨q, 0, none⟩) N cR := (hρ 6).trans (by kernel_rfl)
      have e18 : ρ (.tmp 18) = .int .i64 j := (hρ 18).trans (by kernel_rfl)
      have e154 : ρ (.tmp 154) = .slice (some ⟨q, 0, none⟩) N cR := (hρ 154).trans (by kernel_rfl)
      have e155 : ρ (.tmp 155) = .int .i64 j := (hρ 155).trans (by kernel_rfl)
      have e158 : ρ (.tmp 158) = .slice (some ⟨q, 0, none⟩) N cR := (hρ 158).trans (by kernel_rfl)
      have e159 : ρ (.tmp 159) = .int .i64 j := (hρ 159).trans (by kernel_rfl)
      have e160 : ρ (.tmp 160) = .int .i64 ((j : Int) + 1) := (hρ 160).trans (by kernel_rfl)
      clear hρ
      simp only [List.mem_cons, List.not_mem_nil, or_false] at hy
      rcases hy with rfl | rfl | rfl | rfl | rfl | rfl | rfl
      all_goals
        refine ⟨_, rfl, ?_⟩
        go_simp
        try (first | rfl | (intro hlt2; exact absurd hlt2 (by omega)) | (rw [if_pos ⟨by omega, by omega⟩, HXA.out]))
    simp only [putA, putD, Act.put, List.setIfInBounds_toArray, List.set_cons_zero, List.set_cons_succ]
    clear p3 p4
    refine spine_list rfl rfl rfl ?_
    go_wp2_with fail
    refine ⟨rfl, trivial, ?_⟩
    refine spine_list rfl rfl rfl ?_
    have hb5 := Gw.alloc w4 (.cells #[] 31)
    have hp5 : PR (w4.alloc (.cells #[] 31)) w4.heap.size (.slice (some ⟨w4.heap.size, 0, none⟩) 0 0) [] := PR.empty _ _ _ (Nat.le_refl _) (Bk.new w4 31 #[])
    have hr5 : RdP (w4.alloc (.cells #[] 31)) (some ⟨q, 0, none⟩) l := (H4.out.row.below hb5).rdp
    have hl5 : l.length ≤ 100 := by have := HN.out; omega
    refine wp_appP rfl (.tmp 153) (.tmp 156) rfl rfl (show PR (w4.alloc (.cells #[] 31)).drew w4.heap.size _ _ from hp5) (some ⟨q, 0, none⟩) j cR (l.take j) rfl (by rw [List.length_take]; omega) (show RdP (w4.alloc (.cells #[] 31)).drew _ _ from hr5.pre j) (by rw [List.length_take]; simp only [List.length_nil]; omega) (show w4.heap.size ≤ (w4.alloc (.cells #[] 31)).heap.size from hb5.size) ?_
    intro v5 w5 ho5 hb6 hg5 hv5
    have hbb5 : Below w4.heap.size w4 w5 := (hb5.trans ((Gw.drew _).mono hb5.size)).trans hb6
    have hr6 : RdP w5 XA (l.drop (j + 1)) := by
      rw [HXA.out]
      have hr7 : RdP w5 (some ⟨q, 0, none⟩) l := (H4.out.row.below hbb5).rdp
      by_cases hcj : cR = j + 1
      · have hd : l.drop (j + 1) = [] := List.drop_eq_nil_of_le (by have := HCR.out; have := HN.out; omega)
        rw [hd]
        intro i u hu
        cases hu
      · rw [if_neg hcj]
        have h8 := hr7.suf (j + 1)
        rw [show (0 : Nat) + 2 * (j + 1) = (j + 1) * 2 from by omega] at h8
        exact h8
    rw [List.nil_append] at ho5
    refine ⟨rfl, trivial, ?_⟩
    refine spine_list rfl rfl rfl ?_
    refine wp_appP rfl (.tmp 157) (.tmp 161) rfl rfl ho5 XA (N - (j + 1)) (cR - (j + 1)) (l.drop (j + 1)) rfl (by rw [List.length_drop, HN.out]) hr6 (by rw [List.length_take, List.length_drop]; omega) hbb5.size ?_
    intro v6 w6 ho6 hb7 hg6 hv6
    have hbb6 : Below w4.heap.size w4 w6 := hbb5.trans hb7
    refine ⟨rfl, trivial, ?_⟩
    refine spine_list rfl rfl rfl ?_
    have HO6 := Lib.hid ho6
    have HBB6 := Lib.hid hbb6
    clear hb5 hp5 hr5 hl5 ho5 hb6 hg5 hv5 hbb5 hr6 ho6 hb7 hg6 hv6 hbb6
    go_wp2_with fail
    refine ⟨rfl, trivial, ?_⟩
    unfold SpineW
    obtain ⟨l2, hl2⟩ : ∃ x, x = l.take j ++ l.drop (j + 1) := ⟨_, rfl⟩
    rw [← hl2] at H4 HO6
    have HL := Lib.hid (show last ≤ k + 1 ∧ l2.length ≤ k + 1 from by have := hlk.out; have := HN.out; rw [hl2, List.length_append, List.length_take, List.length_drop]; omega)
    obtain ⟨A6, c6, rfl, _⟩ := HO6.out.slice
    obtain ⟨N2, hN2⟩ : ∃ x, x = l2.length := ⟨_, rfl⟩
    rw [← hN2] at HO6 ⊢
    have HN2 := Lib.hid hN2
    have q8 : (N2 : Int) ≤ 101 := by have := HL.out.2; omega
    obtain ⟨wt, hwt⟩ : ∃ x, x = w6 := ⟨_, rfl⟩
    rw [← hwt] at HO6 HBB6 ⊢
    have HS := Lib.hid (H4.out.rowTo HBB6.out HO6.out)
    have HB := Lib.hid (HB4.out.trans (HBB6.out.mono H4.out.hB))
    clear hl2 hN2 hwt H4 H3 HK3 HB3 HZ3 HXA HJJ HO6 HBB6 HBK hS hlk HB4
    go_wp2_with fail
    go_meet
    case rel => exact ⟨g, last, l2, rfl, rfl, HL, Lib.hid HS.out.drop, HB⟩
  · obtain ⟨rfl, hno⟩ := h
    have H3 := Lib.hid (HSA.out.below b3)
    have HK3 := Lib.hid (HBK.out.below b3 HBK.out.lt)
    have e1 := HK3.out.cell 1
    have hcl := hclose_x H3.out.tab n HTO.out.2.2.1
    rw [look_none l n hno, off_none l n hno] at hcl
    simp only [Option.isSome_none] at hcl
    have HCL := Lib.hid hcl
    have HB3 := Lib.hid (HBA.out.trans (b3.mono hs3))
    have HZ3 := Lib.hid (Nat.le_trans hs3 b3.size)
    clear hcl b3 hs3 d0 d1 HAT hno
    go_wp2_with fail
    refine Calls.mono HCL.out ?_
    rintro e wt he
    have HS := Lib.hid (H3.out.tb he)
    have HB := Lib.hid (HB3.out.trans (he.bel HZ3.out))
    have HL := Lib.hid (show last ≤ k + 1 ∧ l.length ≤ k + 1 from by have := hlk.out; omega)
    obtain rfl := he.1
    clear he HCL e1 HK3 H3 HBK hS hlk
    go_wp2_with fail
    go_meet
    case rel => exact ⟨g, last, l, rfl, rfl, HL, Lib.hid HS.out.drop, HB⟩
end Go.Proofs.Ytflocdghpnjoaaa
