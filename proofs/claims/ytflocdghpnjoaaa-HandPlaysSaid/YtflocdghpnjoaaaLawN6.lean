/- The law HandPlays of layer 20 returns true for every argument. No conditions. -/
import Derived.Test.YtflocdghpnjoaaaPlD
import Derived.Test.YtflocdghpnjoaaaPlE
import Derived.Deep.CutRange
import Derived.Deep.CutBlock
import Derived.Deep.Light
import Derived.Test.YtflocdghpnjoaaaFrame
import Derived.Test.YtflocdghpnjoaaaN4a
import Derived.Test.YtflocdghpnjoaaaN4b
import Derived.Test.YtflocdghpnjoaaaN4c
import Derived.Test.YtflocdghpnjoaaaN4d
import Derived.Test.YtflocdghpnjoaaaN4e
import Derived.Test.YtflocdghpnjoaaaN4f
namespace Go.Proofs.Ytflocdghpnjoaaa
set_option linter.unusedVariables false
set_option linter.unusedSimpArgs false
open Go.RowKit Go.Maps
set_option maxHeartbeats 20000000
set_option maxRecDepth 100000
theorem plays_out (w : World) (A : Option Addr) (n c : Nat) (x : Int) (h : 100 < n) (hc : n ≤ maxLen) : Calls Try.prog 3 #[.slice A n c, .int .i64 x] w (TruP (.bool true) w) := by
  go_enter Try.func3, Try.ntmps3
  go_wp2_with fail
  refine Calls.mono (known20_c _) ?_
  rintro e w1 ⟨rfl, b1⟩
  go_wp2_with fail
  go_ret
  exact ⟨rfl, b1⟩
theorem plays_in (w : World) (A : Option Addr) (acts : List A20) (c : Nat) (hA : A20s w w.heap.size A acts) (hl : acts.length ≤ 100) (x : Int) (hx : (Lit.int .i64 x).wf = true) :
    Calls Try.prog 3 #[.slice A acts.length c, .int .i64 x] w (TruP (.bool true) w) := by
  have HA := Lib.hid hA
  have HXW := Lib.hid hx
  obtain ⟨M, hM⟩ : ∃ M, M = acts.length := ⟨_, rfl⟩
  rw [← hM]
  have HM := Lib.hid hM
  have q1 : (M : Int) ≤ 100 := by omega
  clear hA hl hM hx
  go_enter Try.func3, Try.ntmps3
  go_wp2_with fail
  refine Calls.mono (known20_c _) ?_
  rintro e w1 ⟨rfl, b1⟩
  have HB1 := Lib.hid b1
  clear b1
  go_wp2_with fail
  refine Calls.mono (hnew_x w1 (Fx (.slice none 0 0) (fun _ => False)) (fun k e => by
    rcases e with e | e
    · cases e
    · exact e.elim)) ?_
  rintro e w2 ⟨g0, rfl, ht, b2⟩
  have HS0 := Lib.hid (show St w1.heap.size (fun _ => False) w2 g0 (.slice none 0 0) [] [] 0 from ⟨ht, PR.nil _ _, fun _ _ f => f, fun _ f => f.elim, b2.size⟩)
  have HB0 := Lib.hid b2
  clear ht b2
  go_wp2_with fail
  go_loopw [5, 6, 7, 8] (fun pt rv la i wr => ∃ (k g last : Nat) (l : List (Int × Int)), k ≤ M ∧ i = .int .i64 k ∧ la = .int .i64 last ∧ pt = .pointer (some ⟨g, 0, none⟩) ∧ Hid (last ≤ k ∧ l.length ≤ k) ∧ Hid (St w1.heap.size (fun _ => False) wr g rv l l last) ∧ Hid (Below w1.heap.size w1 wr)) (fun _ _ _ i _ => M - (intOf i).toNat)
  case atStart => exact ⟨0, g0, 0, [], Nat.zero_le _, rfl, rfl, rfl, Lib.hid ⟨Nat.le_refl _, Nat.le_refl _⟩, HS0, HB0⟩
  case round =>
    obtain ⟨k, g, last, l, hk, rfl, rfl, rfl, hlk, hS, hB⟩ := hrel
    obtain ⟨AR, cR, rfl, hcR, hcM⟩ := hS.out.row.slice
    obtain ⟨N, hN⟩ : ∃ N, N = l.length := ⟨_, rfl⟩
    rw [← hN] at hS hcR ⊢
    have HN := Lib.hid hN
    have q2 : (N : Int) ≤ 100 := by have := hlk.out.2; omega
    have q3 : (last : Int) ≤ 100 := by have := hlk.out.1; omega
    have HBW := Lib.hid (HB1.out.trans (hB.out.mono HB1.out.size))
    clear hN
    by_cases hlt : k < M
    · have p1 : (0 : Int) ≤ (k : Int) := by omega
      have p2 : (k : Int) < (M : Int) := by omega
      have hlw : k < acts.length := by rw [← HM.out]; exact hlt
      obtain ⟨ad, rfl, m⟩ := (HA.out.below HBW.out) k hlw
      obtain ⟨y, hy⟩ : ∃ y, y = acts[k] := ⟨_, rfl⟩
      rw [← hy] at m
      obtain ⟨op, n, ta, tO, tc⟩ := y
      obtain ⟨m0, m1, m2, m3, z0, z1, m4, m5, m6, m7⟩ := m
      dsimp only at m1 m2 m3 z0 z1 m4 m5 m6 m7
      have HTO := Lib.hid (And.intro m6 (And.intro m7 (And.intro z1 m5)))
      have hz1 := wf64 z1
      have hz0 := wf64 z0
      obtain ⟨nt, hnt⟩ : ∃ nt, nt = tO.length := ⟨_, rfl⟩
      rw [← hnt] at m3 m4
      have HNT := Lib.hid hnt
      clear hy hlw z0 z1 m0 m5 m6 m7 hnt
      by_cases h60 : 60 < nt
      · go_wp2_with fail
        go_ret
        exact ⟨rfl, HBW.out.alloc HBW.out.size _⟩
      · have q4 : (nt : Int) ≤ 60 := by omega
        have HSA := Lib.hid (hS.out.aside (Gw.alloc wr (.cells #[.int .i64 op, .int .i64 n, .slice ta nt tc] 29)) (by simp))
        have HBK := Lib.hid (Bk.new wr 29 #[.int .i64 op, .int .i64 n, .slice ta nt tc])
        have HBA := Lib.hid (hB.out.alloc hB.out.size (.cells #[.int .i64 op, .int .i64 n, .slice ta nt tc] 29))
        have HCR := Lib.hid hcR
        clear hcR
        obtain ⟨z0, z1⟩ := And.intro (HBK.out.cell 0) (HBK.out.cell 1)
        go_upto_block 2 with fail
        clear z0 z1
        obtain ⟨HH0, hH⟩ : ∃ x, x = wr.heap.size := ⟨_, rfl⟩
        rw [← hH] at HSA HBK ⊢
        clear hH
        go_cut [5, 6, 7] from 35 to 258 (fun s5 s6 s7 wx => ∃ (g2 last2 : Nat) (l2 : List (Int × Int)), s5 = .pointer (some ⟨g2, 0, none⟩) ∧ s7 = .int .i64 last2 ∧ Hid (last2 ≤ k + 1 ∧ l2.length ≤ k + 1) ∧ Hid (St w1.heap.size (fun _ => False) wx g2 s6 l2 l2 last2) ∧ Hid (Below w1.heap.size w1 wx))
        case first =>
          rename_i J0 K0 hJ0 hK0
          revert J0 K0 hJ0 hK0
          go_light
          intro J0 K0 hJ0 hK0
          rcases (show op = 1 ∨ op = 2 ∨ op = 3 ∨ op = 4 ∨ op = 5 ∨ (¬ op = 1 ∧ ¬ op = 2 ∧ ¬ op = 3 ∧ ¬ op = 4 ∧ ¬ op = 5) by omega) with rfl | rfl | rfl | rfl | rfl | ⟨n1, n2, n3, n4, n5⟩
          · exact plays_arm_a w acts c x HXW M HM q1 w1 HB1 w2 g0 HS0 HB0 wr u4 u9 u10 u11 u12 u13 u14 u15 u16 u17 u18 u19 u20 u21 u22 u23 u24 u25 u35 u36 u37 u38 u39 u40 u41 u42 u43 u44 u45 u46 u47 u48 u49 u50 u51 u52 u53 u54 u55 u56 u57 u58 u59 u60 u61 u62 u63 u64 u65 u66 u67 u68 u69 u70 u71 u72 u73 u74 u75 u76 u77 u78 u79 u80 u81 u82 u83 u84 u85 u86 u87 u88 u89 u90 u91 u92 u93 u94 u95 u96 u97 u98 u99 u100 u101 u102 u103 u104 u105 u106 u107 u108 u109 u110 u111 u112 u113 u114 u115 u116 u117 u118 u119 u120 u121 u122 u123 u124 u125 u126 u127 u128 u129 u130 u131 u132 u133 u134 u135 u136 u137 u138 u139 u140 u141 u142 u143 u144 u145 u146 u147 u148 u149 u150 u151 u152 u153 u154 u155 u156 u157 u158 u159 u160 u161 u162 u163 u164 u165 u166 u167 u168 u169 u170 u171 u172 u173 u174 u175 u176 u177 u178 u179 u180 u181 u182 u183 u184 u185 u186 u187 u188 u189 u190 u191 u192 u193 u194 u195 u196 u197 u198 u199 u200 u201 u202 u203 u204 u205 u206 u207 u208 u209 u210 u211 u212 u213 u214 u215 u216 u217 u218 u219 u220 u221 u222 u223 u224 u225 u226 u227 u228 u229 u230 u231 u232 u233 u234 u235 u236 u237 u238 u239 u240 u241 u242 u243 u244 u245 u246 u247 u248 u249 u250 u251 u252 u253 u254 u255 u256 u257 u258 k g last l hk hlk hB AR cR hcM N hS HN q2 q3 HBW hlt p1 p2 ad HA n ta tO tc m2 HTO hz1 nt m4 m3 HNT h60 q4 HCR HH0 J0 K0 hJ0 hK0 m1 hz0 HBA HBK HSA _
          · exact plays_arm_b w acts c x HXW M HM q1 w1 HB1 w2 g0 HS0 HB0 wr u4 u9 u10 u11 u12 u13 u14 u15 u16 u17 u18 u19 u20 u21 u22 u23 u24 u25 u35 u36 u37 u38 u39 u40 u41 u42 u43 u44 u45 u46 u47 u48 u49 u50 u51 u52 u53 u54 u55 u56 u57 u58 u59 u60 u61 u62 u63 u64 u65 u66 u67 u68 u69 u70 u71 u72 u73 u74 u75 u76 u77 u78 u79 u80 u81 u82 u83 u84 u85 u86 u87 u88 u89 u90 u91 u92 u93 u94 u95 u96 u97 u98 u99 u100 u101 u102 u103 u104 u105 u106 u107 u108 u109 u110 u111 u112 u113 u114 u115 u116 u117 u118 u119 u120 u121 u122 u123 u124 u125 u126 u127 u128 u129 u130 u131 u132 u133 u134 u135 u136 u137 u138 u139 u140 u141 u142 u143 u144 u145 u146 u147 u148 u149 u150 u151 u152 u153 u154 u155 u156 u157 u158 u159 u160 u161 u162 u163 u164 u165 u166 u167 u168 u169 u170 u171 u172 u173 u174 u175 u176 u177 u178 u179 u180 u181 u182 u183 u184 u185 u186 u187 u188 u189 u190 u191 u192 u193 u194 u195 u196 u197 u198 u199 u200 u201 u202 u203 u204 u205 u206 u207 u208 u209 u210 u211 u212 u213 u214 u215 u216 u217 u218 u219 u220 u221 u222 u223 u224 u225 u226 u227 u228 u229 u230 u231 u232 u233 u234 u235 u236 u237 u238 u239 u240 u241 u242 u243 u244 u245 u246 u247 u248 u249 u250 u251 u252 u253 u254 u255 u256 u257 u258 k g last l hk hlk hB AR cR hcM N hS HN q2 q3 HBW hlt p1 p2 ad HA n ta tO tc m2 HTO hz1 nt m4 m3 HNT h60 q4 HCR HH0 J0 K0 hJ0 hK0 m1 hz0 HBA HBK HSA _
          · exact plays_arm_c w acts c x HXW M HM q1 w1 HB1 w2 g0 HS0 HB0 wr u4 u9 u10 u11 u12 u13 u14 u15 u16 u17 u18 u19 u20 u21 u22 u23 u24 u25 u35 u36 u37 u38 u39 u40 u41 u42 u43 u44 u45 u46 u47 u48 u49 u50 u51 u52 u53 u54 u55 u56 u57 u58 u59 u60 u61 u62 u63 u64 u65 u66 u67 u68 u69 u70 u71 u72 u73 u74 u75 u76 u77 u78 u79 u80 u81 u82 u83 u84 u85 u86 u87 u88 u89 u90 u91 u92 u93 u94 u95 u96 u97 u98 u99 u100 u101 u102 u103 u104 u105 u106 u107 u108 u109 u110 u111 u112 u113 u114 u115 u116 u117 u118 u119 u120 u121 u122 u123 u124 u125 u126 u127 u128 u129 u130 u131 u132 u133 u134 u135 u136 u137 u138 u139 u140 u141 u142 u143 u144 u145 u146 u147 u148 u149 u150 u151 u152 u153 u154 u155 u156 u157 u158 u159 u160 u161 u162 u163 u164 u165 u166 u167 u168 u169 u170 u171 u172 u173 u174 u175 u176 u177 u178 u179 u180 u181 u182 u183 u184 u185 u186 u187 u188 u189 u190 u191 u192 u193 u194 u195 u196 u197 u198 u199 u200 u201 u202 u203 u204 u205 u206 u207 u208 u209 u210 u211 u212 u213 u214 u215 u216 u217 u218 u219 u220 u221 u222 u223 u224 u225 u226 u227 u228 u229 u230 u231 u232 u233 u234 u235 u236 u237 u238 u239 u240 u241 u242 u243 u244 u245 u246 u247 u248 u249 u250 u251 u252 u253 u254 u255 u256 u257 u258 k g last l hk hlk hB AR cR hcM N hS HN q2 q3 HBW hlt p1 p2 ad HA n ta tO tc m2 HTO hz1 nt m4 m3 HNT h60 q4 HCR HH0 J0 K0 hJ0 hK0 m1 hz0 HBA HBK HSA _
          · exact plays_arm_d w acts c x HXW M HM q1 w1 HB1 w2 g0 HS0 HB0 wr u4 u9 u10 u11 u12 u13 u14 u15 u16 u17 u18 u19 u20 u21 u22 u23 u24 u25 u35 u36 u37 u38 u39 u40 u41 u42 u43 u44 u45 u46 u47 u48 u49 u50 u51 u52 u53 u54 u55 u56 u57 u58 u59 u60 u61 u62 u63 u64 u65 u66 u67 u68 u69 u70 u71 u72 u73 u74 u75 u76 u77 u78 u79 u80 u81 u82 u83 u84 u85 u86 u87 u88 u89 u90 u91 u92 u93 u94 u95 u96 u97 u98 u99 u100 u101 u102 u103 u104 u105 u106 u107 u108 u109 u110 u111 u112 u113 u114 u115 u116 u117 u118 u119 u120 u121 u122 u123 u124 u125 u126 u127 u128 u129 u130 u131 u132 u133 u134 u135 u136 u137 u138 u139 u140 u141 u142 u143 u144 u145 u146 u147 u148 u149 u150 u151 u152 u153 u154 u155 u156 u157 u158 u159 u160 u161 u162 u163 u164 u165 u166 u167 u168 u169 u170 u171 u172 u173 u174 u175 u176 u177 u178 u179 u180 u181 u182 u183 u184 u185 u186 u187 u188 u189 u190 u191 u192 u193 u194 u195 u196 u197 u198 u199 u200 u201 u202 u203 u204 u205 u206 u207 u208 u209 u210 u211 u212 u213 u214 u215 u216 u217 u218 u219 u220 u221 u222 u223 u224 u225 u226 u227 u228 u229 u230 u231 u232 u233 u234 u235 u236 u237 u238 u239 u240 u241 u242 u243 u244 u245 u246 u247 u248 u249 u250 u251 u252 u253 u254 u255 u256 u257 u258 k g last l hk hlk hB AR cR hcM N hS HN q2 q3 HBW hlt p1 p2 ad HA n ta tO tc m2 HTO hz1 nt m4 m3 HNT h60 q4 HCR HH0 J0 K0 hJ0 hK0 m1 hz0 HBA HBK HSA _
          · exact plays_arm_e w acts c x HXW M HM q1 w1 HB1 w2 g0 HS0 HB0 wr u4 u9 u10 u11 u12 u13 u14 u15 u16 u17 u18 u19 u20 u21 u22 u23 u24 u25 u35 u36 u37 u38 u39 u40 u41 u42 u43 u44 u45 u46 u47 u48 u49 u50 u51 u52 u53 u54 u55 u56 u57 u58 u59 u60 u61 u62 u63 u64 u65 u66 u67 u68 u69 u70 u71 u72 u73 u74 u75 u76 u77 u78 u79 u80 u81 u82 u83 u84 u85 u86 u87 u88 u89 u90 u91 u92 u93 u94 u95 u96 u97 u98 u99 u100 u101 u102 u103 u104 u105 u106 u107 u108 u109 u110 u111 u112 u113 u114 u115 u116 u117 u118 u119 u120 u121 u122 u123 u124 u125 u126 u127 u128 u129 u130 u131 u132 u133 u134 u135 u136 u137 u138 u139 u140 u141 u142 u143 u144 u145 u146 u147 u148 u149 u150 u151 u152 u153 u154 u155 u156 u157 u158 u159 u160 u161 u162 u163 u164 u165 u166 u167 u168 u169 u170 u171 u172 u173 u174 u175 u176 u177 u178 u179 u180 u181 u182 u183 u184 u185 u186 u187 u188 u189 u190 u191 u192 u193 u194 u195 u196 u197 u198 u199 u200 u201 u202 u203 u204 u205 u206 u207 u208 u209 u210 u211 u212 u213 u214 u215 u216 u217 u218 u219 u220 u221 u222 u223 u224 u225 u226 u227 u228 u229 u230 u231 u232 u233 u234 u235 u236 u237 u238 u239 u240 u241 u242 u243 u244 u245 u246 u247 u248 u249 u250 u251 u252 u253 u254 u255 u256 u257 u258 k g last l hk hlk hB AR cR hcM N hS HN q2 q3 HBW hlt p1 p2 ad HA n ta tO tc m2 HTO hz1 nt m4 m3 HNT h60 q4 HCR HH0 J0 K0 hJ0 hK0 m1 hz0 HBA HBK HSA _
          · exact plays_arm_f w acts c x HXW M HM q1 w1 HB1 w2 g0 HS0 HB0 wr u4 u9 u10 u11 u12 u13 u14 u15 u16 u17 u18 u19 u20 u21 u22 u23 u24 u25 u35 u36 u37 u38 u39 u40 u41 u42 u43 u44 u45 u46 u47 u48 u49 u50 u51 u52 u53 u54 u55 u56 u57 u58 u59 u60 u61 u62 u63 u64 u65 u66 u67 u68 u69 u70 u71 u72 u73 u74 u75 u76 u77 u78 u79 u80 u81 u82 u83 u84 u85 u86 u87 u88 u89 u90 u91 u92 u93 u94 u95 u96 u97 u98 u99 u100 u101 u102 u103 u104 u105 u106 u107 u108 u109 u110 u111 u112 u113 u114 u115 u116 u117 u118 u119 u120 u121 u122 u123 u124 u125 u126 u127 u128 u129 u130 u131 u132 u133 u134 u135 u136 u137 u138 u139 u140 u141 u142 u143 u144 u145 u146 u147 u148 u149 u150 u151 u152 u153 u154 u155 u156 u157 u158 u159 u160 u161 u162 u163 u164 u165 u166 u167 u168 u169 u170 u171 u172 u173 u174 u175 u176 u177 u178 u179 u180 u181 u182 u183 u184 u185 u186 u187 u188 u189 u190 u191 u192 u193 u194 u195 u196 u197 u198 u199 u200 u201 u202 u203 u204 u205 u206 u207 u208 u209 u210 u211 u212 u213 u214 u215 u216 u217 u218 u219 u220 u221 u222 u223 u224 u225 u226 u227 u228 u229 u230 u231 u232 u233 u234 u235 u236 u237 u238 u239 u240 u241 u242 u243 u244 u245 u246 u247 u248 u249 u250 u251 u252 u253 u254 u255 u256 u257 u258 k g last l hk hlk hB AR cR hcM N hS HN q2 q3 HBW hlt p1 p2 ad HA op n ta tO tc m1 m2 HTO hz1 hz0 nt m4 m3 HNT h60 q4 HBA HCR HH0 HBK HSA J0 K0 hJ0 hK0 n1 n2 n3 n4 n5 _
        case rest =>
          obtain ⟨g2, last2, l2, rfl, rfl, HL, hS2, HB⟩ := hcut
          obtain ⟨AR2, cR2, rfl, _, _⟩ := hS2.out.row.slice
          obtain ⟨N2, hN2⟩ : ∃ N, N = l2.length := ⟨_, rfl⟩
          rw [← hN2] at hS2 ⊢
          have HS := Lib.hid hS2.out
          have HN2 := Lib.hid hN2
          have q8 : (N2 : Int) ≤ 101 := by have := HL.out.2; omega
          clear hN2 hS2 HSA HBK HBA HCR HTO HNT hS hlk hz1 hz0 q4 q2 q3 HN
          go_wp2_with fail
          go_loopw [23, 24, 25] (fun hv nv i wz => ∃ j : Nat, j ≤ N2 ∧ i = .int .i64 j ∧ Hid (Ow i64 3 wz wc.heap.size hv ((l2.map (·.1)).take j)) ∧ Hid (Ow i64 3 wz wc.heap.size nv ((l2.map (·.2)).take j)) ∧ Hid (∀ i, hv.ownBlock = some i → nv.ownBlock ≠ some i) ∧ Hid (Below wc.heap.size wc wz)) (fun _ _ i _ => N2 - (intOf i).toNat)
          case atStart => exact ⟨0, Nat.zero_le _, rfl, Lib.hid (Ow.nil_ _ _ _ _), Lib.hid (Ow.nil_ _ _ _ _), Lib.hid (fun i e => by cases e), Lib.hid (Below.refl _ _)⟩
          case round =>
            obtain ⟨j, hj, rfl, ho1, ho2, hap, hBz⟩ := hrel
            by_cases hlj : j < N2
            · have p5 : (0 : Int) ≤ (j : Int) := by omega
              have p6 : (j : Int) < (N2 : Int) := by omega
              have hjl : j < l2.length := by rw [← HN2.out]; exact hlj
              obtain ⟨q, rfl, _, hq, c1, c2⟩ := (HS.out.row.below hBz.out).at_ j hjl
              have hqt : q < wc.heap.size := by
                obtain ⟨q', e, _, h, _⟩ := HS.out.row.at_ j hjl
                injection e with e; injection e with e; omega
              obtain ⟨y1, hy1⟩ : ∃ y, y = l2[j].1 := ⟨_, rfl⟩
              obtain ⟨y2, hy2⟩ : ∃ y, y = l2[j].2 := ⟨_, rfl⟩
              rw [← hy1] at c1
              rw [← hy2] at c2
              have HT1 := Lib.hid (show (l2.map (·.1)).take (j + 1) = (l2.map (·.1)).take j ++ [y1] ∧ ((l2.map (·.1)).take j).length = j from ⟨by rw [List.take_succ_eq_append_getElem (by simpa using hjl), List.getElem_map, hy1], by rw [List.length_take, List.length_map]; omega⟩)
              have HT2 := Lib.hid (show (l2.map (·.2)).take (j + 1) = (l2.map (·.2)).take j ++ [y2] ∧ ((l2.map (·.2)).take j).length = j from ⟨by rw [List.take_succ_eq_append_getElem (by simpa using hjl), List.getElem_map, hy2], by rw [List.length_take, List.length_map]; omega⟩)
              have HQ := Lib.hid hqt
              have hsz := hBz.out.size
              obtain ⟨A1, d1, e1, _⟩ := ho1.out.form
              rw [HT1.out.2] at e1
              subst e1
              obtain ⟨A2, d2, e2, _⟩ := ho2.out.form
              rw [HT2.out.2] at e2
              subst e2
              clear hy1 hy2 hqt
              go_wp2_with (first
                | (at_builtin; refine wp_app oneI i64_one rfl (.tmp 231) (.tmp 237) rfl wc.heap.size (.slice A1 j d1) _ rfl (ho1.out.alloc _) (some ⟨wr.heap.size, 0, none⟩) 1 1 [y1] rfl rfl (wr.heap.size + 1) (rd1_new rfl) (by rw [HT1.out.2]; simp; omega) (by decide) (by simp; omega) ?_; intro v4 w4 ho4 hb4 hg4 hv4
                   obtain ⟨hn4, hap4, hbz4, hd2⟩ := two_arm1 hBz.out HQ.out c2 ho2.out hap.out ho4 hb4 hg4 hv4
                   have HX4 := Lib.hid (And.intro ho4 (And.intro hn4 (And.intro hap4 (And.intro hbz4 ho4.lt))))
                   have hs4 := hbz4.size
                   clear ho4 hb4 hg4 hv4 hn4 hap4 hbz4 c1 c2)
                | (at_builtin; refine wp_app oneI i64_one rfl (.tmp 239) (.tmp 245) rfl wc.heap.size (.slice A2 j d2) _ rfl (HX4.out.2.1.alloc _) (some ⟨w4.heap.size, 0, none⟩) 1 1 [y2] rfl rfl (w4.heap.size + 1) (rd1_new rfl) (by rw [HT2.out.2]; simp; omega) (by decide) (by simp; omega) ?_; intro v5 w5 ho5 hb5 hg5 hv5
                   have HX5 := Lib.hid (two_arm2 HX4.out.1 HX4.out.2.2.1 HX4.out.2.2.2.1 ho5 hb5 hg5 hv5)
                   clear ho5 hb5 hg5 hv5 hd2 hs4 hsz))
              go_roundw
              case rel => (first | exact ⟨j + 1, by omega, by go_num, Lib.hid (by rw [HT1.out.1]; exact HX5.out.1), Lib.hid (by rw [HT2.out.1]; exact HX5.out.2.1), Lib.hid HX5.out.2.2.1, Lib.hid HX5.out.2.2.2⟩ | (refine ⟨_, _, _, ?_, rfl, rfl, rfl⟩; exact ⟨j + 1, by omega, rfl, Lib.hid (by rw [HT1.out.1]; exact HX5.out.1), Lib.hid (by rw [HT2.out.1]; exact HX5.out.2.1), Lib.hid HX5.out.2.2.1, Lib.hid HX5.out.2.2.2⟩))
              case measure => (first | (simp [intOf]; done) | (simp [intOf]; omega))
            · obtain rfl : j = N2 := by omega
              have e1 := ho1.out
              have e2 := ho2.out
              rw [List.take_of_length_le (by rw [List.length_map, ← HN2.out]; omega)] at e1 e2
              obtain ⟨A1, d1, rfl, _⟩ := e1.form
              obtain ⟨A2, d2, rfl, _⟩ := e2.form
              rw [List.length_map, ← HN2.out] at e1 e2 ⊢
              rw [List.length_map, ← HN2.out]
              have HE := Lib.hid (And.intro e1 e2)
              clear e1 e2 ho1 ho2 hap
              go_wp2_with fail
              refine Calls.mono (hlive_x (HS.out.tab.below hBz.out)) ?_
              rintro e w6 ⟨vL, rfl, hoL, bL⟩
              obtain ⟨AL, cL, rfl, _⟩ := hoL.form
              rw [List.length_map, ← HN2.out] at hoL ⊢
              have HB6 := Lib.hid (hBz.out.trans (bL.mono hBz.out.size))
              have HC1 := Lib.hid (Ints_t w6 _ _ AL A1 cL d1 j _ (by rw [List.length_map]; exact HN2.out) (by omega) hoL (HE.out.1.below bL))
              have HN6 := Lib.hid (HE.out.2.below bL)
              clear hoL bL
              go_wp2_with fail
              refine Calls.mono HC1.out ?_
              rintro e w7 ⟨rfl, b7⟩
              have HB7 := Lib.hid (HB6.out.trans (b7.mono HB6.out.size))
              have HN7 := Lib.hid (HN6.out.below b7)
              clear b7 HC1
              go_wp2_with fail
              refine Calls.mono (hnodes_x (HS.out.tab.below HB7.out)) ?_
              rintro e w8 ⟨vM, rfl, hoM, bM⟩
              obtain ⟨AM, cM, rfl, _⟩ := hoM.form
              rw [List.length_map, ← HN2.out] at hoM ⊢
              have HB8 := Lib.hid (HB7.out.trans (bM.mono HB7.out.size))
              have HC2 := Lib.hid (Ints_t w8 _ _ AM A2 cM d2 j _ (by rw [List.length_map]; exact HN2.out) (by omega) hoM (HN7.out.below bM))
              clear hoM bM
              go_wp2_with fail
              refine Calls.mono HC2.out ?_
              rintro e w9 ⟨rfl, b9⟩
              have HB9 := Lib.hid (HB8.out.trans (b9.mono HB8.out.size))
              clear b9 HC2
              go_wp2_with fail
              go_roundw
              case rel => (first | exact ⟨k + 1, g2, last2, l2, by omega, by go_num, rfl, rfl, HL, Lib.hid (HS.out.drop.below HB9.out), Lib.hid (HB.out.trans (HB9.out.mono HB.out.size))⟩ | (refine ⟨_, _, _, _, ?_, rfl, rfl, rfl, rfl⟩; exact ⟨k + 1, g2, last2, l2, by omega, rfl, rfl, rfl, HL, Lib.hid (HS.out.drop.below HB9.out), Lib.hid (HB.out.trans (HB9.out.mono HB.out.size))⟩))
              case measure => (first | (simp [intOf]; done) | (simp [intOf]; omega))
    · obtain rfl : k = M := by omega
      obtain ⟨hri, hke, _, _⟩ := hS.out.tab.facts
      by_cases hfx : ∃ j, ∃ hj : j < l.length, l[j].1 = x
      · obtain ⟨j0, hj0, e0⟩ := hfx
        have hlo : lookI l x = some l[j0].2 := by rw [← e0]; exact hri.look j0 hj0
        obtain ⟨y, hy⟩ : ∃ y, y = l[j0].2 := ⟨_, rfl⟩
        rw [← hy] at hlo
        have hg := hget_x hS.out.tab x HXW.out
        rw [hlo] at hg
        have HG := Lib.hid hg
        have HLO := Lib.hid hlo
        have HRI := Lib.hid hri
        clear hri hke hg hlo hy e0 hj0 hcR
        go_wp2_with fail
        refine Calls.mono HG.out ?_
        rintro e w' ⟨rfl, rfl⟩
        have HAT := Lib.hid (at_n w' w1.heap.size AR cR N l HN.out (by have := hS.out.row; rw [← HN.out]; exact this) (by have := HN.out; omega) x)
        clear HG
        go_wp2_with fail
        refine Calls.mono HAT.out ?_
        rintro e w7 ⟨b7, h | h⟩
        · obtain ⟨j, hj, rfl, hjx⟩ := h
          have h2 := HRI.out.look j hj
          rw [hjx, HLO.out] at h2
          injection h2 with h2
          obtain ⟨q, rfl, _, hq, _, c2⟩ := ((hS.out.row).below b7).at_ j hj
          rw [← h2] at c2
          have p3 : (0 : Int) ≤ (j : Int) := by omega
          have p4 : (j : Int) < (N : Int) := by have := HN.out; omega
          have HB7 := Lib.hid (HBW.out.trans (b7.mono HBW.out.size))
          clear b7 h2 hjx
          go_wp2_with fail
          go_ret
          exact ⟨rfl, HB7.out⟩
        · exfalso
          have h1 := HLO.out
          rw [look_none l x (fun p hp => h.2 p hp)] at h1
          cases h1
      · have hno : ∀ p ∈ l, p.1 ≠ x := fun p hp e => by
          obtain ⟨j, hj, rfl⟩ := List.getElem_of_mem hp
          exact hfx ⟨j, hj, e⟩
        have hlo : lookI l x = none := look_none l x hno
        have hg := hget_x hS.out.tab x HXW.out
        rw [hlo] at hg
        have HG := Lib.hid hg
        have HNO := Lib.hid hno
        clear hri hke hg hlo hfx hno hcR
        go_wp2_with fail
        refine Calls.mono HG.out ?_
        rintro e w' ⟨rfl, rfl⟩
        have HAT := Lib.hid (at_n w' w1.heap.size AR cR N l HN.out (by have := hS.out.row; rw [← HN.out]; exact this) (by have := HN.out; omega) x)
        clear HG
        go_wp2_with fail
        refine Calls.mono HAT.out ?_
        rintro e w7 ⟨b7, h | h⟩
        · obtain ⟨j, hj, rfl, hjx⟩ := h
          exact absurd hjx (HNO.out _ (List.getElem_mem hj))
        · obtain ⟨rfl, _⟩ := h
          have HB7 := Lib.hid (HBW.out.trans (b7.mono HBW.out.size))
          clear b7
          go_wp2_with fail
          go_ret
          exact ⟨rfl, HB7.out⟩
theorem plays_walk (w : World) (A : Option Addr) (acts : List A20) (c : Nat) (hc : acts.length ≤ c) (hm : c ≤ maxLen) (hA : A20s w w.heap.size A acts) (x : Int) (hx : (Lit.int .i64 x).wf = true) : Calls Try.prog 3 #[.slice A acts.length c, .int .i64 x] w (TruP (.bool true) w) := by
  by_cases h : 100 < acts.length
  · exact plays_out w A acts.length c x h (Nat.le_trans hc hm)
  · exact plays_in w A acts c hA (by omega) x hx
end Go.Proofs.Ytflocdghpnjoaaa
namespace Go.Proofs.Ytflocdghpnjoaaa.handPlays
open Go.ChangeShapes Go.WideShapes Go.ChangeAt Go.RowKit
open Go.ChangeMaps (open_string shut_string)
set_option linter.unusedVariables false
set_option maxRecDepth 100000 in
theorem lifted (os : Os) (started : os.Started) (H : Type) (enc : TypeId × Value → H) :
    ReturnsInHanded {} Try.checked os 3 .any (Rows.handPlaysSpec.pre6 enc Try.prog Try.f3 Rows.handPlaysRow.domain false) (Rows.handPlaysSpec.post enc Try.prog Try.f3 false true false false) := by
  refine returnsInHanded_of_change (C := Try.checked) own started (by kernel_rfl) Try.func3
    (ChangeSpec.witness6 (enc := enc) (C := Try.checked) false ⟨#[], #[.slice none 0 0, .int .i64 0], []⟩ 8 (by kernel_rfl) (by kernel_rfl) (by kernel_rfl) (by kernel_rfl)) ?_
  intro W base args ds gs before hval0 hW hcnd _
  have hval : ∀ (j : Nat) t v, Try.f3.params[j]? = some t → args[j]? = some v → Value.okWide Try.prog W .any base t v := hval0
  have hW' := hW
  obtain ⟨p, q, hA0, hV, rfl, hfz, hnd⟩ := hW
  have hA : DataW.TrodAll enc Try.prog W 0 (fun _ => true) true Try.f3.params.toList args.toList ds p := hA0
  rw [Try.params3] at hA hval
  obtain ⟨v0, vs0, d0, ds0, p0, q0, hargs, rfl, rfl, h0, r0⟩ := trodAll_cons hA
  obtain ⟨v1, vs1, d1, ds1, p1, q1, rfl, rfl, rfl, h1, r1⟩ := trodAll_cons r0
  obtain ⟨rfl, rfl, rfl⟩ := trodAll_nil r1
  obtain rfl : args = #[v0, v1] := by cases args; simp_all
  obtain ⟨rfl, rfl⟩ := trodVars_none hV
  have k0 := h0
  have lt0 : ∀ x ∈ p0, x.block < W.heap.size := by obtain ⟨m, hm⟩ := k0; exact DataW.trod_lt m _ _ _ hm
  obtain ⟨A0, a0, c0, e0v, g0, m0, w0⟩ := open_rows_Act (hval 0 22 v0 rfl rfl) h0; subst e0v
  have k1 := h1
  have lt1 : ∀ x ∈ p1, x.block < W.heap.size := by obtain ⟨m, hm⟩ := k1; exact DataW.trod_lt m _ _ _ hm
  obtain ⟨a1, e1v, _, _, w1⟩ := open_int Try.underlying3 (hval 1 3 v1 rfl rfl) h1; subst e1v
  clear hA0 hval0
  refine (plays_walk W A0 a0 c0 g0 m0 w0 a1 w1).mono fun e W' ⟨he, bel⟩ => ?_
  subst he
  exact ⟨_, rfl, _, _, _, [], _, [], hW', trodAll_mk1 (shut_bool Try.underlying4 _), (trodAll_cons_mk (Below.trod laidOut (by kernel_rfl) (of_decide_eq_true (by kernel_rfl)) k0 bel lt0) (trodAll_cons_mk (Below.trod laidOut (by kernel_rfl) (of_decide_eq_true (by kernel_rfl)) k1 bel lt1) trodAll_mk0)), rfl, bel.frame _, fun h => by cases h⟩
theorem over : Rows.handPlaysRow.holds Try.pinned (OpenSpec.ofChange Rows.handPlaysSpec) :=
  OpenClaim.holds_of_wide 3 Try.f3 rfl rfl rfl rfl rfl rfl rfl ⟨rfl, rfl, rfl, rfl, rfl⟩ rfl rfl rfl rfl rfl (by kernel_rfl) Try.func3 (by kernel_rfl)
    (of_decide_eq_true (by kernel_rfl)) (by unfold Func.isWrapper; first | (rw [if_pos (by decide +kernel)]; kernel_rfl) | (rw [if_neg (by decide +kernel)]; exact ⟨rfl, rfl⟩))
    (fun os started H enc _ => lifted os started H enc)
theorem proved : Rows.HandPlaysSaid := over
end Go.Proofs.Ytflocdghpnjoaaa.handPlays
