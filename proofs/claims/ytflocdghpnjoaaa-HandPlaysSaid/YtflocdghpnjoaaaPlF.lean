/- A block of a function, found by its number. No conditions. -/
import Derived.Test.YtflocdghpnjoaaaPlE
namespace Go.Proofs.Ytflocdghpnjoaaa
set_option linter.unusedVariables false
set_option linter.unusedSimpArgs false
def blkOf (n : Nat) : Code → Option Code
  | .block m c => if m == n then some (.block m c) else blkOf n c
  | .seq a b => match blkOf n a with
    | some c => some c
    | none => blkOf n b
  | .cond _ a b => match blkOf n a with
    | some c => some c
    | none => blkOf n b
  | .loop c => blkOf n c
  | .scope c => blkOf n c
  | _ => none
noncomputable def blkIn (f : Func) (n : Nat) : Code := (f.body.bind (blkOf n)).getD .skip
set_option maxRecDepth 100000
def plays_rel (c : Nat) (x : Int) (M : Nat) (w1 : Go.World) (g0 : Nat) (u23 : Go.Value) (u24 : Go.Value) (u25 : Go.Value) (k : Nat) (ad : Go.Addr) (HH0 : Nat) (a' : Go.Act) (w' : Go.World) : Prop :=
  ∃ u4 u5 u6 u7 u10 u11 u12 u13 u14 u15 u16 u17 u18 u19 u20 u21 u22 u35 u36 u37 u38 u39 u40 u41 u42 u43 u44 u45 u46
        u47 u48 u49 u50 u51 u52 u53 u54 u55 u56 u57 u58 u59 u60 u61 u62 u63 u64 u65 u66 u67 u68 u69 u70 u71 u72 u73 u74
        u75 u76 u77 u78 u79 u80 u81 u82 u83 u84 u85 u86 u87 u88 u89 u90 u91 u92 u93 u94 u95 u96 u97 u98 u99 u100 u101
        u102 u103 u104 u105 u106 u107 u108 u109 u110 u111 u112 u113 u114 u115 u116 u117 u118 u119 u120 u121 u122 u123
        u124 u125 u126 u127 u128 u129 u130 u131 u132 u133 u134 u135 u136 u137 u138 u139 u140 u141 u142 u143 u144 u145
        u146 u147 u148 u149 u150 u151 u152 u153 u154 u155 u156 u157 u158 u159 u160 u161 u162 u163 u164 u165 u166 u167
        u168 u169 u170 u171 u172 u173 u174 u175 u176 u177 u178 u179 u180 u181 u182 u183 u184 u185 u186 u187 u188 u189
        u190 u191 u192 u193 u194 u195 u196 u197 u198 u199 u200 u201 u202 u203 u204 u205 u206 u207 u208 u209 u210 u211
        u212 u213 u214 u215 u216 u217 u218 u219 u220 u221 u222 u223 u224 u225 u226 u227 u228 u229 u230 u231 u232 u233
        u234 u235 u236 u237 u238 u239 u240 u241 u242 u243 u244 u245 u246 u247 u248 u249 u250 u251 u252 u253 u254 u255
        u256 u257 u258,
        (∃ (g2 last2 : Nat) (l2 : List (Int × Int)),
            u5 = Go.Value.pointer (Option.some { block := g2, off := (0 : Nat) }) ∧
              u7 = Go.Value.int Go.IntKind.i64 (↑last2 : Int) ∧
                Go.RowKit.Hid (last2 ≤ k + (1 : Nat) ∧ l2.length ≤ k + (1 : Nat)) ∧
                  Go.RowKit.Hid (Go.Proofs.Ytflocdghpnjoaaa.St w1.heap.size (fun x => False) w' g2 u6 l2 l2 last2) ∧
                    Go.RowKit.Hid (Go.RowKit.Below w1.heap.size w1 w')) ∧
          a' =
            {
              tmps :=
                #[Go.Value.slice (Option.some ad) M c, Go.Value.int Go.IntKind.i64 x, Go.undef, Go.undef, u4, u5, u6,
                  u7, Go.Value.int Go.IntKind.i64 (↑k : Int),
                  Go.Value.pointer (Option.some { block := HH0, off := (0 : Nat) }), u10, u11, u12, u13, u14, u15, u16,
                  u17, u18, u19, u20, u21, u22, u23, u24, u25, Go.undef, Go.undef, Go.undef, Go.Value.bool Bool.true,
                  Go.Value.bool Bool.false, Go.Value.slice (Option.some ad) M c, Go.Value.int Go.IntKind.i64 (↑M : Int),
                  Go.Value.bool (Decidable.decide ((100 : Int) < (↑M : Int))),
                  Go.Value.pointer (Option.some { block := g0, off := (0 : Nat) }), u35, u36, u37, u38, u39, u40, u41,
                  u42, u43, u44, u45, u46, u47, u48, u49, u50, u51, u52, u53, u54, u55, u56, u57, u58, u59, u60, u61,
                  u62, u63, u64, u65, u66, u67, u68, u69, u70, u71, u72, u73, u74, u75, u76, u77, u78, u79, u80, u81,
                  u82, u83, u84, u85, u86, u87, u88, u89, u90, u91, u92, u93, u94, u95, u96, u97, u98, u99, u100, u101,
                  u102, u103, u104, u105, u106, u107, u108, u109, u110, u111, u112, u113, u114, u115, u116, u117, u118,
                  u119, u120, u121, u122, u123, u124, u125, u126, u127, u128, u129, u130, u131, u132, u133, u134, u135,
                  u136, u137, u138, u139, u140, u141, u142, u143, u144, u145, u146, u147, u148, u149, u150, u151, u152,
                  u153, u154, u155, u156, u157, u158, u159, u160, u161, u162, u163, u164, u165, u166, u167, u168, u169,
                  u170, u171, u172, u173, u174, u175, u176, u177, u178, u179, u180, u181, u182, u183, u184, u185, u186,
                  u187, u188, u189, u190, u191, u192, u193, u194, u195, u196, u197, u198, u199, u200, u201, u202, u203,
                  u204, u205, u206, u207, u208, u209, u210, u211, u212, u213, u214, u215, u216, u217, u218, u219, u220,
                  u221, u222, u223, u224, u225, u226, u227, u228, u229, u230, u231, u232, u233, u234, u235, u236, u237,
                  u238, u239, u240, u241, u242, u243, u244, u245, u246, u247, u248, u249, u250, u251, u252, u253, u254,
                  u255, u256, u257, u258, Go.undef, Go.undef, Go.undef, Go.undef, Go.undef, Go.undef, Go.undef,
                  Go.undef, Go.undef, Go.undef, Go.undef, Go.undef, Go.undef, Go.undef, Go.undef, Go.undef, Go.undef,
                  Go.undef, Go.undef, Go.undef, Go.undef, Go.undef, Go.undef, Go.undef, Go.undef, Go.undef, Go.undef,
                  Go.undef, Go.undef, Go.undef, Go.undef, Go.undef, Go.undef, Go.undef],
              defers := [] }
end Go.Proofs.Ytflocdghpnjoaaa
