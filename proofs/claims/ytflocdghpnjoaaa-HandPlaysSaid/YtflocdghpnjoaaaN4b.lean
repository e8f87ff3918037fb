/- HandPlays, one way through a round: b. Conditions: those of the round. -/
import Derived.Test.YtflocdghpnjoaaaPlD
import Derived.Test.YtflocdghpnjoaaaPlE
import Derived.Deep.CutRange
import Derived.Deep.CutBlock
import Derived.Deep.Light
import Derived.Test.YtflocdghpnjoaaaFrame
import Derived.Test.YtflocdghpnjoaaaPlF
namespace Go.Proofs.Ytflocdghpnjoaaa
set_option linter.unusedVariables false
set_option linter.unusedSimpArgs false
open Go.RowKit Go.Maps
set_option maxHeartbeats 20000000
set_option maxRecDepth 100000
theorem plays_arm_b (w : Go.World)
    (acts : List Go.Proofs.Ytflocdghpnjoaaa.A20)
    (c : Nat)
    (x : Int)
    (HXW : Go.RowKit.Hid ((Go.Lit.int Go.IntKind.i64 x).wf = Bool.true))
    (M : Nat)
    (HM : Go.RowKit.Hid (M = acts.length))
    (q1 : (↑M : Int) ≤ (100 : Int))
    (w1 : Go.World)
    (HB1 : Go.RowKit.Hid (Go.RowKit.Below w.heap.size w w1))
    (w2 : Go.World)
    (g0 : Nat)
    (HS0 : Go.RowKit.Hid
    (Go.Proofs.Ytflocdghpnjoaaa.St w1.heap.size (fun x => False) w2 g0 (Go.Value.slice Option.none (0 : Nat) (0 : Nat))
      [] [] (0 : Nat)))
    (HB0 : Go.RowKit.Hid (Go.RowKit.Below w1.heap.size w1 w2))
    (wr : Go.World)
    (u4 u9 u10 u11 u12 u13 u14 u15 u16 u17 u18 u19 u20 u21 u22 u23 u24 u25 u35 u36 u37 u38 u39 u40 u41 u42 u43 u44 u45 u46 u47 u48 u49 u50 u51 u52 u53 u54 u55 u56 u57 u58 u59 u60 u61 u62 u63 u64 u65 u66 u67 u68 u69 u70 u71 u72 u73 u74 u75 u76 u77 u78 u79 u80 u81 u82 u83 u84 u85 u86 u87 u88 u89 u90 u91 u92 u93 u94 u95 u96 u97 u98 u99 u100 u101 u102 u103 u104 u105 u106 u107 u108 u109 u110 u111 u112 u113 u114 u115 u116 u117 u118 u119 u120 u121 u122 u123 u124 u125 u126 u127 u128 u129 u130 u131 u132 u133 u134 u135 u136 u137 u138 u139 u140 u141 u142 u143 u144 u145 u146 u147 u148 u149 u150 u151 u152 u153 u154 u155 u156 u157 u158 u159 u160 u161 u162 u163 u164 u165 u166 u167 u168 u169 u170 u171 u172 u173 u174 u175 u176 u177 u178 u179 u180 u181 u182 u183 u184 u185 u186 u187 u188 u189 u190 u191 u192 u193 u194 u195 u196 u197 u198 u199 u200 u201 u202 u203 u204 u205 u206 u207 u208 u209 u210 u211 u212 u213 u214 u215 u216 u217 u218 u219 u220 u221 u222 u223 u224 u225 u226 u227 u228 u229 u230 u231 u232 u233 u234 u235 u236 u237 u238 u239 u240 u241 u242 u243 u244 u245 u246 u247 u248 u249 u250 u251 u252 u253 u254 u255 u256 u257 u258 : Go.Value)
    (k g last : Nat)
    (l : List (Int × Int))
    (hk : k ≤ M)
    (hlk : Go.RowKit.Hid (last ≤ k ∧ l.length ≤ k))
    (hB : Go.RowKit.Hid (Go.RowKit.Below w1.heap.size w1 wr))
    (AR : Option Go.Addr)
    (cR : Nat)
    (hcM : cR ≤ Go.maxLen)
    (N : Nat)
    (hS : Go.RowKit.Hid (Go.Proofs.Ytflocdghpnjoaaa.St w1.heap.size (fun x => False) wr g (Go.Value.slice AR N cR) l l last))
    (HN : Go.RowKit.Hid (N = l.length))
    (q2 : (↑N : Int) ≤ (100 : Int))
    (q3 : (↑last : Int) ≤ (100 : Int))
    (HBW : Go.RowKit.Hid (Go.RowKit.Below w.heap.size w wr))
    (hlt : k < M)
    (p1 : (0 : Int) ≤ (↑k : Int))
    (p2 : (↑k : Int) < (↑M : Int))
    (ad : Go.Addr)
    (HA : Go.RowKit.Hid (Go.Proofs.Ytflocdghpnjoaaa.A20s w w.heap.size (Option.some ad) acts))
    (n : Int)
    (ta : Option Go.Addr)
    (tO : List Int)
    (tc : Nat)
    (m2 : wr.cell? { block := (ad.add (k * (3 : Nat))).block, off := (ad.add (k * (3 : Nat))).off + (1 : Nat) } =
    Option.some (Go.Value.int Go.IntKind.i64 n))
    (HTO : Go.RowKit.Hid
    (Go.Proofs.Ytflocdghpnjoaaa.Rd Go.Proofs.Ytflocdghpnjoaaa.i64 wr w.heap.size ta tO ∧
      (∀ (y : Int), y ∈ tO → (Go.Lit.int Go.IntKind.i64 y).wf = Bool.true) ∧
        (Go.Lit.int Go.IntKind.i64 n).wf = Bool.true ∧ tc ≤ Go.maxLen))
    (hz1 : (-9223372036854775808 : Int) ≤ n ∧ n ≤ (9223372036854775807 : Int))
    (nt : Nat)
    (m4 : nt ≤ tc)
    (m3 : wr.cell? { block := (ad.add (k * (3 : Nat))).block, off := (ad.add (k * (3 : Nat))).off + (2 : Nat) } =
    Option.some (Go.Value.slice ta nt tc))
    (HNT : Go.RowKit.Hid (nt = tO.length))
    (h60 : ¬(60 : Nat) < nt)
    (q4 : (↑nt : Int) ≤ (60 : Int))
    (HCR : Go.RowKit.Hid (N ≤ cR))
    (HH0 : Nat)
    (J0 K0 : Go.Act → Go.World → Prop)
    (hJ0 : ∀ (a' : Go.Act) (w' : Go.World), plays_rel c x M w1 g0 u23 u24 u25 k ad HH0 a' w' → J0 a' w')
    (hK0 : ∀ (a' : Go.Act) (w' : Go.World), Go.Met J0 a' w' → K0 a' w')
    (m1 : wr.cell? (ad.add (k * (3 : Nat))) = Option.some (Go.Value.int Go.IntKind.i64 (2 : Int)))
    (hz0 : (-9223372036854775808 : Int) ≤ (2 : Int) ∧ (2 : Int) ≤ (9223372036854775807 : Int))
    (HBA : Go.RowKit.Hid
    (Go.RowKit.Below w1.heap.size w1
      (wr.alloc
        (Go.Obj.cells #[Go.Value.int Go.IntKind.i64 (2 : Int), Go.Value.int Go.IntKind.i64 n, Go.Value.slice ta nt tc]
          (29 : Go.TypeId)))))
    (HBK : Go.RowKit.Hid
    (Go.Proofs.Ytflocdghpnjoaaa.Bk
      (wr.alloc
        (Go.Obj.cells #[Go.Value.int Go.IntKind.i64 (2 : Int), Go.Value.int Go.IntKind.i64 n, Go.Value.slice ta nt tc]
          (29 : Go.TypeId)))
      HH0 (29 : Go.TypeId)
      #[Go.Value.int Go.IntKind.i64 (2 : Int), Go.Value.int Go.IntKind.i64 n, Go.Value.slice ta nt tc]))
    (HSA : Go.RowKit.Hid
    (Go.Proofs.Ytflocdghpnjoaaa.St w1.heap.size (fun k => k = HH0)
      (wr.alloc
        (Go.Obj.cells #[Go.Value.int Go.IntKind.i64 (2 : Int), Go.Value.int Go.IntKind.i64 n, Go.Value.slice ta nt tc]
          (29 : Go.TypeId)))
      g (Go.Value.slice AR N cR) l l last)) (Q0 : Go.Exit → Go.Act → Go.World → Prop) :
    Go.Code.wp Go.Proofs.Try.prog (blkIn Try.f3 2) (Go.Exit.then K0 Q0)
    {
      tmps :=
        #[Go.Value.slice (Option.some ad) M c, Go.Value.int Go.IntKind.i64 x, Go.undef, Go.undef, u4,
          Go.Value.pointer (Option.some { block := g, off := (0 : Nat) }), Go.Value.slice AR N cR,
          Go.Value.int Go.IntKind.i64 (↑last : Int), Go.Value.int Go.IntKind.i64 (↑k : Int),
          Go.Value.pointer (Option.some { block := HH0, off := (0 : Nat) }), u10, u11, u12, u13, u14, u15, u16, u17,
          u18, u19, u20, u21, u22, u23, u24, u25, Go.undef, Go.undef, Go.undef, Go.Value.bool Bool.true,
          Go.Value.bool Bool.false, Go.Value.slice (Option.some ad) M c, Go.Value.int Go.IntKind.i64 (↑M : Int),
          Go.Value.bool (Decidable.decide ((100 : Int) < (↑M : Int))),
          Go.Value.pointer (Option.some { block := g0, off := (0 : Nat) }), Go.Value.int Go.IntKind.i64 (↑k : Int),
          Go.Value.slice (Option.some ad) M c, Go.Value.int Go.IntKind.i64 (↑M : Int), Go.Value.bool Bool.true, u39,
          u40, Go.Value.slice (Option.some ad) M c, Go.Value.int Go.IntKind.i64 (↑k : Int),
          Go.Value.pointer (Option.some (ad.add (k * (3 : Nat)))),
          Go.Value.agg #[Go.Value.int Go.IntKind.i64 (2 : Int), Go.Value.int Go.IntKind.i64 n, Go.Value.slice ta nt tc],
          Go.Value.pointer (Option.some { block := HH0, off := (2 : Nat) }), Go.Value.slice ta nt tc,
          Go.Value.int Go.IntKind.i64 (↑nt : Int), Go.Value.bool (Decidable.decide ((60 : Int) < (↑nt : Int))),
          Go.Value.pointer (Option.some { block := HH0, off := (0 : Nat) }), Go.Value.int Go.IntKind.i64 (2 : Int), u51,
          u52, u53, u54, u55, u56, u57, u58, u59, u60, u61, u62, u63, u64, u65, u66, u67, u68, u69, u70, u71, u72, u73,
          u74, u75, u76, u77, u78, u79, u80, u81, u82, u83, u84, u85, u86, u87, u88, u89, u90, u91, u92, u93, u94, u95,
          u96, u97, u98, u99, u100, u101, u102, u103, u104, u105, u106, u107, u108, u109, u110, u111, u112, u113, u114,
          u115, u116, u117, u118, u119, u120, u121, u122, u123, u124, u125, u126, u127, u128, u129, u130, u131, u132,
          u133, u134, u135, u136, u137, u138, u139, u140, u141, u142, u143, u144, u145, u146, u147, u148, u149, u150,
          u151, u152, u153, u154, u155, u156, u157, u158, u159, u160, u161, u162, u163, u164, u165, u166, u167, u168,
          u169, u170, u171, u172, u173, u174, u175, u176, u177, u178, u179, u180, u181, u182, u183, u184, u185, u186,
          u187, u188, u189, u190, u191, u192, u193, u194, u195, u196, u197, u198, u199, u200, u201, u202, u203, u204,
          u205, u206, u207, u208, u209, u210, u211, u212, u213, u214, u215, u216, u217, u218, u219, u220, u221, u222,
          u223, u224, u225, u226, u227, u228, u229, u230, u231, u232, u233, u234, u235, u236, u237, u238, u239, u240,
          u241, u242, u243, u244, u245, u246, u247, u248, u249, u250, u251, u252, u253, u254, u255, u256, u257, u258,
          Go.undef, Go.undef, Go.undef, Go.undef, Go.undef, Go.undef, Go.undef, Go.undef, Go.undef, Go.undef, Go.undef,
          Go.undef, Go.undef, Go.undef, Go.undef, Go.undef, Go.undef, Go.undef, Go.undef, Go.undef, Go.undef, Go.undef,
          Go.undef, Go.undef, Go.undef, Go.undef, Go.undef, Go.undef, Go.undef, Go.undef, Go.undef, Go.undef, Go.undef,
          Go.undef],
      defers := [] }
    (wr.alloc
      (Go.Obj.cells #[Go.Value.int Go.IntKind.i64 (2 : Int), Go.Value.int Go.IntKind.i64 n, Go.Value.slice ta nt tc]
        (29 : Nat))) := by
  conv => arg 2; whnf
  have hs3 := HSA.out.hB
  obtain ⟨W0, hW0⟩ : ∃ x, x = wr.alloc (.cells #[.int .i64 2, .int .i64 n, .slice ta nt tc] 29) := ⟨_, rfl⟩
  rw [← hW0] at HSA HBA HBK hs3 ⊢
  have HH := Lib.hid HBK.out.lt
  have hd0 := HBK.out.cell 0
  have hd1 := HBK.out.cell 1
  have HD := Lib.hid (And.intro hd0 hd1)
  clear hW0
  go_upto_block 3 with fail
  go_cut [12] from 35 to 258 (fun s12 wx => ∃ fi : Int, s12 = .int .i64 fi ∧ Hid (FoundI l n 0 fi) ∧ Hid (Below W0.heap.size W0 wx))
  case first =>
    go_wp2_with fail
    go_loopw [12, 13] (fun f i wz => ∃ (s : Nat) (fi : Int), s ≤ N ∧ f = .int .i64 fi ∧ i = .int .i64 ((s : Int) - 1) ∧ Hid (FoundI l n s fi) ∧ Hid (Below W0.heap.size W0 wz)) (fun _ i _ => (intOf i + 1).toNat)
    case atStart => exact ⟨N, 0, Nat.le_refl _, rfl, by go_num, Lib.hid (by rw [HN.out]; exact FoundI.start l n), Lib.hid (Below.refl _ _)⟩
    case round =>
      obtain ⟨s, fi, hsN, rfl, rfl, hF, hBz⟩ := hrel
      have dd0 := (hBz.out.cell (p := ⟨HH0, 0, none⟩) HH.out).trans HD.out.1
      have dd1 := (hBz.out.cell (p := ⟨HH0, 1, none⟩) HH.out).trans HD.out.2
      clear hd0 hd1
      rcases Nat.eq_zero_or_pos s with rfl | hs0
      · go_wp2_with fail
        go_meet
        exact ⟨fi, rfl, hF, hBz⟩
      · obtain ⟨j, rfl⟩ : ∃ j, s = j + 1 := ⟨s - 1, by omega⟩
        rw [show (((j + 1 : Nat) : Int) - 1) = (j : Int) from by omega]
        have hjl : j < l.length := by rw [← HN.out]; omega
        have p1 : (0 : Int) ≤ (j : Int) := by omega
        have p2 : (j : Int) < (N : Int) := by omega
        have tg : decide ((0 : Int) ≤ (j : Int)) = true := by simp
        obtain ⟨q, rfl, _, hq, c1, c2⟩ := (HSA.out.row.below hBz.out).at_ j hjl
        obtain ⟨y1, hy1⟩ : ∃ y, y = l[j].1 := ⟨_, rfl⟩
        obtain ⟨y2, hy2⟩ : ∃ y, y = l[j].2 := ⟨_, rfl⟩
        rw [← hy1] at c1
        rw [← hy2] at c2
        have HY := Lib.hid (And.intro hy1 hy2)
        have HC := Lib.hid (And.intro c1 (And.intro c2 (And.intro dd1 hq)))
        have HJ := Lib.hid (And.intro hjl hsN)
        clear hy1 hy2 c1 c2 dd1 hq hs0 hsN
        by_cases e : y2 = n
        · have hr : ((y2 == n) : Bool) = true := by simpa using e
          have HE := Lib.hid e
          clear e
          go_wp2_with fail
          refine fo_reg _ _ _ q HH0 j N cR y2 n true HC.out.2.2.2 (Nat.lt_of_lt_of_le HH.out hBz.out.size) HC.out.2.1 HC.out.2.2.1 p1 p2 hr rfl rfl rfl rfl ?_
          intro vals w7 hG h73
          unfold IsV at h73
          simp only [putD, Act.put, List.setIfInBounds_toArray, List.set_cons_zero, List.set_cons_succ, h73]
          have c1 := (hG.cell (p := ⟨q, j * 2, none⟩) HC.out.2.2.2).trans HC.out.1
          have HB7 := Lib.hid (hBz.out.trans (hG.mono hBz.out.size))
          clear h73 hG dd0 HC hr
          go_wp2_with fail
          go_roundw
          case rel => exact ⟨j, y1, by have := HJ.out; omega, rfl, by go_num, Lib.hid (by obtain ⟨rfl, h2⟩ := HY.out; exact FoundI.hit (f := 0) HJ.out.1 (by rw [← h2]; exact HE.out)), HB7⟩
          case measure => (first | (simp [intOf]; done) | (simp [intOf]; omega))
        · have hr : ((y2 == n) : Bool) = false := by simpa using e
          have HE := Lib.hid e
          clear e
          go_wp2_with fail
          refine fo_reg _ _ _ q HH0 j N cR y2 n false HC.out.2.2.2 (Nat.lt_of_lt_of_le HH.out hBz.out.size) HC.out.2.1 HC.out.2.2.1 p1 p2 hr rfl rfl rfl rfl ?_
          intro vals w7 hG h73
          unfold IsV at h73
          simp only [putD, Act.put, List.setIfInBounds_toArray, List.set_cons_zero, List.set_cons_succ, h73]
          have HB7 := Lib.hid (hBz.out.trans (hG.mono hBz.out.size))
          clear h73 hG dd0 HC hr
          go_wp2_with fail
          go_roundw
          case rel => exact ⟨j, fi, by have := HJ.out; omega, rfl, by go_num, Lib.hid (hF.out.miss HJ.out.1 (by rw [← HY.out.2]; exact HE.out)), HB7⟩
          case measure => (first | (simp [intOf]; done) | (simp [intOf]; omega))
  case rest =>
    obtain ⟨fi, rfl, hF, hBz⟩ := hcut
    have HSB := Lib.hid (HSA.out.below hBz.out)
    have HKB := Lib.hid (HBK.out.below hBz.out HH.out)
    have HBB := Lib.hid (HBA.out.trans (hBz.out.mono hs3))
    have HSZ := Lib.hid (Nat.le_trans hs3 hBz.out.size)
    have d0 := HKB.out.cell 0
    have d1 := HKB.out.cell 1
    clear hd0 hd1 hs3
    by_cases hx : ∃ j0, ∃ h : j0 < l.length, l[j0].2 = n
    · -- one is there
      have hx2 : ∃ j0, ∃ h : j0 < l.length, l[j0].2 = n ∧ fi = l[j0].1 ∧ ∀ j (hj : j < j0), l[j].2 ≠ n := by
        rcases hF.out with ⟨_, h⟩ | ⟨j0, hj0, _, h2, h3, h4⟩
        · obtain ⟨j0, hj0, e⟩ := hx
          exact absurd e (h j0 hj0 (Nat.zero_le _))
        · exact ⟨j0, hj0, h2, h3, fun j hj => h4 j hj (Nat.zero_le _)⟩
      obtain ⟨j0, hj0, h2, h3, h4⟩ := hx2
      have hcl := hfor_x HSB.out.tab n j0 hj0 h2 h4
      obtain ⟨_, hke, _, _⟩ := HSB.out.tab.facts
      have hy := hke _ (List.getElem_mem hj0)
      rw [← h3] at hcl hy
      rw [h2] at hy
      have p8 : (1 : Int) ≤ fi := hy.1
      have p9 : (1 : Int) ≤ n := hy.2.2.1
      have HCL := Lib.hid hcl
      clear hcl hke hy h2 h3 h4 hx
      go_wp2_with fail
      refine Calls.mono HCL.out ?_
      rintro e w4 ⟨rfl, b4⟩
      have H4 := Lib.hid (HSB.out.below b4)
      have HK4 := Lib.hid (HKB.out.below b4 HKB.out.lt)
      have HB4 := Lib.hid (HBB.out.trans (b4.mono HSZ.out))
      have e0 := HK4.out.cell 0
      have e1 := HK4.out.cell 1
      clear b4 HCL d0 d1
      go_wp2_with fail
      go_meet
      case rel => exact ⟨g, last, l, rfl, rfl, Lib.hid (by have := hlk.out; omega), Lib.hid H4.out.drop, HB4⟩
    · have hno : ∀ j (hj : j < l.length), l[j].2 ≠ n := fun j hj e => hx ⟨j, hj, e⟩
      obtain rfl : fi = 0 := by
        rcases hF.out with ⟨h, _⟩ | ⟨j0, hj0, _, h2, _, _⟩
        · exact h
        · exact absurd h2 (hno j0 hj0)
      clear hx
      by_cases hn1 : n < 1
      · have HCL := Lib.hid (hforarg_x HSB.out.tab n hn1 hno)
        clear hno
        go_wp2_with fail
        refine Calls.mono HCL.out ?_
        rintro e w4 he
        have H4 := Lib.hid (HSB.out.tb he)
        have HK4 := Lib.hid (he.bk HKB.out (.inr (.inr rfl)))
        have HB4 := Lib.hid (HBB.out.trans (he.bel HSZ.out))
        obtain rfl := he.1
        have e0 := HK4.out.cell 0
        have e1 := HK4.out.cell 1
        clear he HCL d0 d1
        go_wp2_with fail
        go_meet
        case rel => exact ⟨g, last, l, rfl, rfl, Lib.hid (by have := hlk.out; omega), Lib.hid H4.out.drop, HB4⟩
      · have hcl := hfornew_x HSB.out.tab HSB.out.fxl HSB.out.hB n (by omega) (by omega) (by have := hlk.out; omega) (by have := hlk.out; omega) hno
        rw [show (((last + 1 : Nat) : Int)) = (last : Int) + 1 from by omega] at hcl
        have HCL := Lib.hid hcl
        clear hcl hno
        go_wp2_with fail
        refine Calls.mono HCL.out ?_
        rintro e w4 he
        have H4 := Lib.hid (HSB.out.tb he)
        have HK4 := Lib.hid (he.bk HKB.out (.inr (.inr rfl)))
        have HB4 := Lib.hid (HBB.out.trans (he.bel HSZ.out))
        obtain rfl := he.1
        have e0 := HK4.out.cell 0
        have e1 := HK4.out.cell 1
        clear he HCL d0 d1
        go_wp2_with fail
        refine r35_law _ _ w4 AR N cR w1.heap.size HH0 l ((last : Int) + 1) n rfl rfl rfl rfl HN.out (by have := HN.out; omega) HK4.out.lt (HK4.out.cell 1) (by have := H4.out.row; rw [← HN.out]; exact this) ?_
        intro v0 v2 v7 v8 w8 hp8 hb8
        simp only [putA, putD, Act.put, List.setIfInBounds_toArray, List.set_cons_zero, List.set_cons_succ]
        obtain ⟨A8, c8, rfl, _, _⟩ := hp8.slice
        have HV8 := Lib.hid hb8
        have HO8 := Lib.hid hp8
        clear hp8 hb8 e0 e1
        go_wp2_with fail
        go_meet
        case rel => exact ⟨g, last + 1, l ++ [((last : Int) + 1, n)], rfl, (by first | rfl | go_num), Lib.hid ⟨by have := hlk.out; omega, by have := hlk.out; simp; omega⟩, Lib.hid (by have hh := (H4.out.rowTo HV8.out HO8.out).drop; first | exact hh | (rw [List.length_append] at hh; exact hh)), Lib.hid (HB4.out.trans (HV8.out.mono H4.out.hB))⟩
end Go.Proofs.Ytflocdghpnjoaaa
