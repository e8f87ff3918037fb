/- Texts joined: ObM ObN CkF CkG FiB RegS RegT2 CkH. -/
import Derived.Test.YtaminpfgkegibaaXa3
import Derived.Test.YtaminpfgkegibaaRegV
import Derived.Test.YtaminpfgkegibaaRegT
import Derived.LoopTactic
/- The reference's Well: its regions that draw their order. Conditions: lengths. (BEGUN: Well itself is still to come.) -/
namespace Go.Proofs.Ytaminpfgkegibaa
set_option linter.unusedVariables false
set_option linter.unusedSimpArgs false
open Go.RowKit
set_option maxHeartbeats 1000000
set_option maxRecDepth 100000
theorem rw11 (Q : Exit → Act → World → Prop) (a0 : Act) (w : World) (R a k q i N : Nat) (A B : Option Addr) (L c cl : Nat) (b t e y : Int) (r : Bool) (x : BitVec 64) (hR : R < w.heap.size) (ad ad2 : Addr) (hA : A = some ad) (hB : B = some ad2) (c0 : w.cell? ⟨R, 0, none⟩ = some (.slice A L c)) (hlt : (ad2.add i).block < w.heap.size) (hlt2 : (ad.add q).block < w.heap.size) (cl1 : w.cell? (ad2.add i) = some (.int .i64 (a : Int))) (q0 : (0 : Int) ≤ (i : Int)) (q1 : (i : Int) < (N : Int)) (q2 : (0 : Int) ≤ (a : Int)) (q3 : (a : Int) ≤ 100000) (q4 : (k : Int) ≤ 100) (q5 : (0 : Int) ≤ (k : Int)) (q6 : (q : Int) < (L : Int)) (q7 : (a : Int) + 1 + (k : Int) = (q : Int)) (q8 : (0 : Int) ≤ (q : Int)) (cw : w.cell? (ad.add q) = some (.int .u64 (U64 x))) (hp : Hid (∀ W, Below w.heap.size w W → Calls Try.prog 32 #[.slice B N cl, .int .u64 (U64 x)] W (RetP (.bool r) W))) (hsz : a0.tmps.size = 65) (sl0 : a0.tmps.getD 0 undef = .pointer (some ⟨R, 0, none⟩)) (sl3 : a0.tmps.getD 3 undef = .slice B N cl) (sl5 : a0.tmps.getD 5 undef = .int .i64 (i : Int)) (sl8 : a0.tmps.getD 8 undef = .int .i64 (k : Int))
    (fin : ∀ (vals : Nat → Value) (w1 : World), Below w.heap.size w w1 → (IsV (.bool (!r))) (vals 15) w1 → Q .normal (putD vals [42, 43, 44, 45, 46, 47, 48, 49, 50, 51, 52, 53, 54, 55, 56, 57] 0 a0) w1) :
    (Code.region 11 (regIn Try.f16 11) true).wp Try.prog Q a0 w := by
  refine region_by (G := fun w w1 => Below w.heap.size w w1) [IsV (.slice B N cl),
    IsV (.pointer (some ⟨R, 0, none⟩)),
    IsV (.pointer (some ⟨R, 0, none⟩)),
    IsV (.pointer (some ⟨R, 0, none⟩)),
    IsV (.slice A L c),
    IsV (.slice B N cl),
    IsV (.int .i64 (i : Int)),
    IsV (.pointer (some (ad2.add i))),
    IsV (.int .i64 (a : Int)),
    IsV (.int .i64 ((a : Int) + 1)),
    IsV (.int .i64 (k : Int)),
    IsV (.int .i64 (q : Int)),
    IsV (.pointer (some (ad.add q))),
    IsV (.int .u64 (U64 x)),
    IsV (.bool r),
    IsV (.bool (!r))]
    [42, 43, 44, 45, 46, 47, 48, 49, 50, 51, 52, 53, 54, 55, 56, 57] (by kernel_rfl) (Gw.drew _) Gw.trans (by rw [hsz]; kernel_rfl) (by kernel_rfl) ?_ ?_ ?_
  · intro f hf
    simp only [List.mem_cons, List.not_mem_nil, or_false] at hf
    rcases hf with rfl | rfl | rfl | rfl | rfl | rfl | rfl | rfl | rfl | rfl | rfl | rfl | rfl | rfl | rfl | rfl <;> intro v a b h g <;> first | exact IsV.mono h
  · refine ⟨?_, ?_, ?_, ?_, ?_, ?_, ?_, ?_, ?_, ?_, ?_, ?_, ?_, ?_, ?_, ?_, trivial⟩
    · exact owes_mv 3 (by kernel_rfl) (by kernel_rfl) (by kernel_rfl) sl3 (fun _ => rfl)
    · exact owes_mv 0 (by kernel_rfl) (by kernel_rfl) (by kernel_rfl) sl0 (fun _ => rfl)
    · refine owes_v (Go.Op.nilCheck (Go.Operand.tmp 43)) 0 [1] (by kernel_rfl) (by kernel_rfl) (by kernel_rfl) rfl fun vals w1 ρ hG hF hρ hcst hfun => ?_
      have e43 : ρ (.tmp 43) = .pointer (some ⟨R, 0, none⟩) := ((hρ 43).trans (slotJ [1] (by rw [hsz]; decide) (by kernel_rfl))).trans (hF 1 (by decide))
      clear hρ hF hcst hfun sl0 sl3 sl5 sl8 fin
      exact opv_val (by go_simp <;> rfl) ⟨gw_self _, rfl⟩
    · refine owes_v (Go.Op.fieldAddr 41 (Go.Operand.tmp 44) 0) 0 [2] (by kernel_rfl) (by kernel_rfl) (by kernel_rfl) rfl fun vals w1 ρ hG hF hρ hcst hfun => ?_
      have e44 : ρ (.tmp 44) = .pointer (some ⟨R, 0, none⟩) := ((hρ 44).trans (slotJ [2] (by rw [hsz]; decide) (by kernel_rfl))).trans (hF 2 (by decide))
      clear hρ hF hcst hfun sl0 sl3 sl5 sl8 fin
      exact opv_val (by go_simp <;> rfl) ⟨gw_self _, rfl⟩
    · refine owes_v (Go.Op.load 22 (Go.Operand.tmp 45)) 22 [3] (by kernel_rfl) (by kernel_rfl) (by kernel_rfl) rfl fun vals w1 ρ hG hF hρ hcst hfun => ?_
      have e45 : ρ (.tmp 45) = .pointer (some ⟨R, 0, none⟩) := ((hρ 45).trans (slotJ [3] (by rw [hsz]; decide) (by kernel_rfl))).trans (hF 3 (by decide))
      have k := (hG.cell (p := ⟨R, 0, none⟩) hR).trans c0
      clear hρ hF hcst hfun sl0 sl3 sl5 sl8 fin
      exact opv_val (by go_simp <;> rfl) ⟨gw_self _, rfl⟩
    · exact owes_mv 3 (by kernel_rfl) (by kernel_rfl) (by kernel_rfl) sl3 (fun _ => rfl)
    · exact owes_mv 5 (by kernel_rfl) (by kernel_rfl) (by kernel_rfl) sl5 (fun _ => rfl)
    · refine owes_v (Go.Op.indexAddr 69 (Go.Operand.tmp 47) (Go.Operand.tmp 48)) 0 [5, 6] (by kernel_rfl) (by kernel_rfl) (by kernel_rfl) rfl fun vals w1 ρ hG hF hρ hcst hfun => ?_
      have e47 : ρ (.tmp 47) = .slice B N cl := ((hρ 47).trans (slotJ [5, 6] (by rw [hsz]; decide) (by kernel_rfl))).trans (hF 5 (by decide))
      have e48 : ρ (.tmp 48) = .int .i64 (i : Int) := ((hρ 48).trans (slotJ [5, 6] (by rw [hsz]; decide) (by kernel_rfl))).trans (hF 6 (by decide))
      subst hB
      clear hρ hF hcst hfun sl0 sl3 sl5 sl8 fin
      exact opv_val (by go_simp <;> rfl) ⟨gw_self _, rfl⟩
    · refine owes_v (Go.Op.load 3 (Go.Operand.tmp 49)) 3 [7] (by kernel_rfl) (by kernel_rfl) (by kernel_rfl) rfl fun vals w1 ρ hG hF hρ hcst hfun => ?_
      have e49 : ρ (.tmp 49) = .pointer (some (ad2.add i)) := ((hρ 49).trans (slotJ [7] (by rw [hsz]; decide) (by kernel_rfl))).trans (hF 7 (by decide))
      have k := (hG.cell (p := ad2.add i) hlt).trans cl1
      clear hρ hF hcst hfun sl0 sl3 sl5 sl8 fin
      exact opv_val (by go_simp <;> rfl) ⟨gw_self _, rfl⟩
    · refine owes_v (Go.Op.binOp Go.BinOp.add 3 (Go.Operand.tmp 50) (Go.Operand.const (Go.Value.int Go.IntKind.i64 1)) 3) 3 [8] (by kernel_rfl) (by kernel_rfl) (by kernel_rfl) rfl fun vals w1 ρ hG hF hρ hcst hfun => ?_
      have e50 : ρ (.tmp 50) = .int .i64 (a : Int) := ((hρ 50).trans (slotJ [8] (by rw [hsz]; decide) (by kernel_rfl))).trans (hF 8 (by decide))
      have kw0 : IntKind.i64.wrap (((a : Int) + 1)) = ((a : Int) + 1) := wrapIn (by omega) (by omega)
      clear hρ hF hfun sl0 sl3 sl5 sl8 fin
      exact opv_val (by go_simp <;> rfl) ⟨gw_self _, rfl⟩
    · exact owes_mv 8 (by kernel_rfl) (by kernel_rfl) (by kernel_rfl) sl8 (fun _ => rfl)
    · refine owes_v (Go.Op.binOp Go.BinOp.add 3 (Go.Operand.tmp 51) (Go.Operand.tmp 52) 3) 3 [9, 10] (by kernel_rfl) (by kernel_rfl) (by kernel_rfl) rfl fun vals w1 ρ hG hF hρ hcst hfun => ?_
      have e51 : ρ (.tmp 51) = .int .i64 ((a : Int) + 1) := ((hρ 51).trans (slotJ [9, 10] (by rw [hsz]; decide) (by kernel_rfl))).trans (hF 9 (by decide))
      have e52 : ρ (.tmp 52) = .int .i64 (k : Int) := ((hρ 52).trans (slotJ [9, 10] (by rw [hsz]; decide) (by kernel_rfl))).trans (hF 10 (by decide))
      have kw0 : IntKind.i64.wrap (((q : Int))) = ((q : Int)) := wrapIn (by omega) (by omega)
      clear hρ hF hcst hfun sl0 sl3 sl5 sl8 fin
      exact opv_val (by go_simp <;> rfl) ⟨gw_self _, rfl⟩
    · refine owes_v (Go.Op.indexAddr 22 (Go.Operand.tmp 46) (Go.Operand.tmp 53)) 0 [4, 11] (by kernel_rfl) (by kernel_rfl) (by kernel_rfl) rfl fun vals w1 ρ hG hF hρ hcst hfun => ?_
      have e46 : ρ (.tmp 46) = .slice A L c := ((hρ 46).trans (slotJ [4, 11] (by rw [hsz]; decide) (by kernel_rfl))).trans (hF 4 (by decide))
      have e53 : ρ (.tmp 53) = .int .i64 (q : Int) := ((hρ 53).trans (slotJ [4, 11] (by rw [hsz]; decide) (by kernel_rfl))).trans (hF 11 (by decide))
      subst hA
      clear hρ hF hcst hfun sl0 sl3 sl5 sl8 fin
      exact opv_val (by go_simp <;> rfl) ⟨gw_self _, rfl⟩
    · refine owes_v (Go.Op.load 57 (Go.Operand.tmp 54)) 57 [12] (by kernel_rfl) (by kernel_rfl) (by kernel_rfl) rfl fun vals w1 ρ hG hF hρ hcst hfun => ?_
      have e54 : ρ (.tmp 54) = .pointer (some (ad.add q)) := ((hρ 54).trans (slotJ [12] (by rw [hsz]; decide) (by kernel_rfl))).trans (hF 12 (by decide))
      have k := (hG.cell (p := ad.add q) hlt2).trans cw
      clear hρ hF hcst hfun sl0 sl3 sl5 sl8 fin
      exact opv_val (by go_simp <;> rfl) ⟨gw_self _, rfl⟩
    · refine owes_v (Go.Op.call { callee := Go.Callee.value (Go.Operand.func 32), args := #[Go.Operand.tmp 42, Go.Operand.tmp 55], argTypes := #[69, 57] }) 4 [0, 13] (by kernel_rfl) (by kernel_rfl) (by kernel_rfl) rfl fun vals w1 ρ hG hF hρ hcst hfun => ?_
      have e42 : ρ (.tmp 42) = .slice B N cl := ((hρ 42).trans (slotJ [0, 13] (by rw [hsz]; decide) (by kernel_rfl))).trans (hF 0 (by decide))
      have e55 : ρ (.tmp 55) = .int .u64 (U64 x) := ((hρ 55).trans (slotJ [0, 13] (by rw [hsz]; decide) (by kernel_rfl))).trans (hF 13 (by decide))
      clear hρ hF hcst sl0 sl3 sl5 sl8 fin
      exact opv_enter (by go_simp <;> rfl) (of_ret (hp.out w1 hG))
    · refine owes_v (Go.Op.unOp Go.UnOp.not 4 (Go.Operand.tmp 56)) 4 [14] (by kernel_rfl) (by kernel_rfl) (by kernel_rfl) rfl fun vals w1 ρ hG hF hρ hcst hfun => ?_
      have e56 : ρ (.tmp 56) = .bool r := ((hρ 56).trans (slotJ [14] (by rw [hsz]; decide) (by kernel_rfl))).trans (hF 14 (by decide))
      clear hρ hF hcst hfun sl0 sl3 sl5 sl8 fin
      exact opv_val (by go_simp <;> rfl) ⟨gw_self _, rfl⟩
  · intro vals w1 hG hF
    exact fin vals w1 hG (hF 15 (by decide +kernel))
theorem rw13 (Q : Exit → Act → World → Prop) (a0 : Act) (w : World) (R a i N g : Nat) (B : Option Addr) (cl : Nat) (P n : Int) (r : Bool) (ad2 : Addr) (hB : B = some ad2) (hlt : (ad2.add i).block < w.heap.size) (cl1 : w.cell? (ad2.add i) = some (.int .i64 (a : Int))) (q0 : (0 : Int) ≤ (i : Int)) (q1 : (i : Int) < (N : Int)) (hg : g < w.heap.size) (g0 : w.cell? ⟨g, 0, none⟩ = some (.int .i64 P)) (g1 : w.cell? ⟨g, 1, none⟩ = some (.int .i64 n)) (g2 : w.cell? ⟨g, 2, none⟩ = some (.bool false)) (g3 : w.cell? ⟨g, 3, none⟩ = some (.int .i64 0)) (hp : Hid (∀ W, Below w.heap.size w W → Calls Try.prog 36 #[.pointer (some ⟨R, 0, none⟩), .int .i64 (a : Int), .agg #[.int .i64 P, .int .i64 n, .bool false, .int .i64 0]] W (RetP (.bool r) W))) (hsz : a0.tmps.size = 65) (sl0 : a0.tmps.getD 0 undef = .pointer (some ⟨R, 0, none⟩)) (sl3 : a0.tmps.getD 3 undef = .slice B N cl) (sl5 : a0.tmps.getD 5 undef = .int .i64 (i : Int)) (sl6 : a0.tmps.getD 6 undef = .pointer (some ⟨g, 0, none⟩))
    (fin : ∀ (vals : Nat → Value) (w1 : World), Below w.heap.size w w1 → (IsV (.bool r)) (vals 6) w1 → Q .normal (putD vals [58, 59, 60, 61, 62, 63, 64] 0 a0) w1) :
    (Code.region 13 (regIn Try.f16 13) true).wp Try.prog Q a0 w := by
  refine region_by (G := fun w w1 => Below w.heap.size w w1) [IsV (.pointer (some ⟨R, 0, none⟩)),
    IsV (.slice B N cl),
    IsV (.int .i64 (i : Int)),
    IsV (.pointer (some (ad2.add i))),
    IsV (.int .i64 (a : Int)),
    IsV (.agg #[.int .i64 P, .int .i64 n, .bool false, .int .i64 0]),
    IsV (.bool r)]
    [58, 59, 60, 61, 62, 63, 64] (by kernel_rfl) (Gw.drew _) Gw.trans (by rw [hsz]; kernel_rfl) (by kernel_rfl) ?_ ?_ ?_
  · intro f hf
    simp only [List.mem_cons, List.not_mem_nil, or_false] at hf
    rcases hf with rfl | rfl | rfl | rfl | rfl | rfl | rfl <;> intro v a b h g <;> first | exact IsV.mono h
  · refine ⟨?_, ?_, ?_, ?_, ?_, ?_, ?_, trivial⟩
    · exact owes_mv 0 (by kernel_rfl) (by kernel_rfl) (by kernel_rfl) sl0 (fun _ => rfl)
    · exact owes_mv 3 (by kernel_rfl) (by kernel_rfl) (by kernel_rfl) sl3 (fun _ => rfl)
    · exact owes_mv 5 (by kernel_rfl) (by kernel_rfl) (by kernel_rfl) sl5 (fun _ => rfl)
    · refine owes_v (Go.Op.indexAddr 69 (Go.Operand.tmp 59) (Go.Operand.tmp 60)) 0 [1, 2] (by kernel_rfl) (by kernel_rfl) (by kernel_rfl) rfl fun vals w1 ρ hG hF hρ hcst hfun => ?_
      have e59 : ρ (.tmp 59) = .slice B N cl := ((hρ 59).trans (slotJ [1, 2] (by rw [hsz]; decide) (by kernel_rfl))).trans (hF 1 (by decide))
      have e60 : ρ (.tmp 60) = .int .i64 (i : Int) := ((hρ 60).trans (slotJ [1, 2] (by rw [hsz]; decide) (by kernel_rfl))).trans (hF 2 (by decide))
      subst hB
      clear hρ hF hcst hfun sl0 sl3 sl5 sl6 fin
      exact opv_val (by go_simp <;> rfl) ⟨gw_self _, rfl⟩
    · refine owes_v (Go.Op.load 3 (Go.Operand.tmp 61)) 3 [3] (by kernel_rfl) (by kernel_rfl) (by kernel_rfl) rfl fun vals w1 ρ hG hF hρ hcst hfun => ?_
      have e61 : ρ (.tmp 61) = .pointer (some (ad2.add i)) := ((hρ 61).trans (slotJ [3] (by rw [hsz]; decide) (by kernel_rfl))).trans (hF 3 (by decide))
      have k := (hG.cell (p := ad2.add i) hlt).trans cl1
      clear hρ hF hcst hfun sl0 sl3 sl5 sl6 fin
      exact opv_val (by go_simp <;> rfl) ⟨gw_self _, rfl⟩
    · refine owes_v (Go.Op.load 88 (Go.Operand.tmp 6)) 88 [] (by kernel_rfl) (by kernel_rfl) (by kernel_rfl) rfl fun vals w1 ρ hG hF hρ hcst hfun => ?_
      have e6 : ρ (.tmp 6) = .pointer (some ⟨g, 0, none⟩) := ((hρ 6).trans (slotO [] (by kernel_rfl))).trans sl6
      have k0 := (hG.cell (p := ⟨g, 0, none⟩) hg).trans g0; have k1 := (hG.cell (p := ⟨g, 1, none⟩) hg).trans g1; have k2 := (hG.cell (p := ⟨g, 2, none⟩) hg).trans g2; have k3 := (hG.cell (p := ⟨g, 3, none⟩) hg).trans g3
      clear hρ hF hcst hfun sl0 sl3 sl5 sl6 fin
      exact opv_val (by go_simp <;> rfl) ⟨gw_self _, rfl⟩
    · refine owes_v (Go.Op.call { callee := Go.Callee.value (Go.Operand.func 36), args := #[Go.Operand.tmp 58, Go.Operand.tmp 62, Go.Operand.tmp 63], argTypes := #[39, 3, 88] }) 4 [0, 4, 5] (by kernel_rfl) (by kernel_rfl) (by kernel_rfl) rfl fun vals w1 ρ hG hF hρ hcst hfun => ?_
      have e58 : ρ (.tmp 58) = .pointer (some ⟨R, 0, none⟩) := ((hρ 58).trans (slotJ [0, 4, 5] (by rw [hsz]; decide) (by kernel_rfl))).trans (hF 0 (by decide))
      have e62 : ρ (.tmp 62) = .int .i64 (a : Int) := ((hρ 62).trans (slotJ [0, 4, 5] (by rw [hsz]; decide) (by kernel_rfl))).trans (hF 4 (by decide))
      have e63 : ρ (.tmp 63) = .agg #[.int .i64 P, .int .i64 n, .bool false, .int .i64 0] := ((hρ 63).trans (slotJ [0, 4, 5] (by rw [hsz]; decide) (by kernel_rfl))).trans (hF 5 (by decide))
      clear hρ hF hcst sl0 sl3 sl5 sl6 fin
      exact opv_enter (by go_simp <;> rfl) (of_ret (hp.out w1 hG))
  · intro vals w1 hG hF
    exact fin vals w1 hG (hF 6 (by decide +kernel))
end Go.Proofs.Ytaminpfgkegibaa
/- The reference's Well. Conditions: lengths. -/
namespace Go.Proofs.Ytaminpfgkegibaa
set_option linter.unusedVariables false
set_option linter.unusedSimpArgs false
open Go.RowKit Go.Maps
set_option maxHeartbeats 1000000
set_option maxRecDepth 100000
theorem rw7 (Q : Exit → Act → World → Prop) (a0 : Act) (w : World) (R a i N : Nat) (A B : Option Addr) (L c cl : Nat) (x : BitVec 64) (P n : Int) (hR : R < w.heap.size) (ad ad2 : Addr) (hA : A = some ad) (hB : B = some ad2) (c0 : w.cell? ⟨R, 0, none⟩ = some (.slice A L c)) (hlt : (ad2.add i).block < w.heap.size) (hlt2 : (ad.add a).block < w.heap.size) (cl1 : w.cell? (ad2.add i) = some (.int .i64 (a : Int))) (q0 : (0 : Int) ≤ (i : Int)) (q1 : (i : Int) < (N : Int)) (q2 : (0 : Int) ≤ (a : Int)) (q6 : (a : Int) < (L : Int)) (cw : w.cell? (ad.add a) = some (.int .u64 (U64 x))) (hp : Hid (∀ W, Calls Try.prog 35 #[.int .u64 (U64 x)] W (RetP (.tuple #[.agg #[.int .i64 P, .int .i64 n, .bool false, .int .i64 0], .int .i64 0]) W))) (hsz : a0.tmps.size = 65) (sl0 : a0.tmps.getD 0 undef = .pointer (some ⟨R, 0, none⟩)) (sl3 : a0.tmps.getD 3 undef = .slice B N cl) (sl5 : a0.tmps.getD 5 undef = .int .i64 (i : Int))
    (fin : ∀ (vals : Nat → Value) (w1 : World), Below w.heap.size w w1 → (BoxC 88 (#[.int .i64 P, .int .i64 n, .bool false, .int .i64 0]) w.heap.size) (vals 14) w1 → (IsV (.int .i64 0)) (vals 16) w1 → Q .normal (putO vals [some 23, some 24, some 25, some 26, some 27, some 28, some 29, some 30, some 31, some 32, some 33, some 22, some 34, some 35, some 6, none, some 7] 0 a0) w1) :
    (Code.region 7 (regIn Try.f16 7) true).wp Try.prog Q a0 w := by
  have hGs : ∀ (j : Nat) (v : Value) (w3 : World), (srcOf [(15, 14)] j = j → (([IsV (.pointer (some ⟨R, 0, none⟩)), IsV (.pointer (some ⟨R, 0, none⟩)), IsV (.pointer (some ⟨R, 0, none⟩)), IsV (.slice A L c), IsV (.slice B N cl), IsV (.int .i64 (i : Int)), IsV (.pointer (some (ad2.add i))), IsV (.int .i64 (a : Int)), IsV (.pointer (some (ad.add a))), IsV (.int .u64 (U64 x)), IsV (.tuple #[.agg #[.int .i64 P, .int .i64 n, .bool false, .int .i64 0], .int .i64 0]), IsV (.tuple #[.agg #[.int .i64 P, .int .i64 n, .bool false, .int .i64 0], .int .i64 0]), IsV (.agg #[.int .i64 P, .int .i64 n, .bool false, .int .i64 0]), IsV (.int .i64 0), BoxV 88 4 w.heap.size, BoxC 88 (#[.int .i64 P, .int .i64 n, .bool false, .int .i64 0]) w.heap.size, IsV (.int .i64 0)] : List (Value → World → Prop)).getD j fun _ _ => True) v w3) → (([IsV (.pointer (some ⟨R, 0, none⟩)), IsV (.pointer (some ⟨R, 0, none⟩)), IsV (.pointer (some ⟨R, 0, none⟩)), IsV (.slice A L c), IsV (.slice B N cl), IsV (.int .i64 (i : Int)), IsV (.pointer (some (ad2.add i))), IsV (.int .i64 (a : Int)), IsV (.pointer (some (ad.add a))), IsV (.int .u64 (U64 x)), IsV (.tuple #[.agg #[.int .i64 P, .int .i64 n, .bool false, .int .i64 0], .int .i64 0]), IsV (.tuple #[.agg #[.int .i64 P, .int .i64 n, .bool false, .int .i64 0], .int .i64 0]), IsV (.agg #[.int .i64 P, .int .i64 n, .bool false, .int .i64 0]), IsV (.int .i64 0), BoxV 88 4 w.heap.size, fun _ _ => True, IsV (.int .i64 0)] : List (Value → World → Prop)).getD j fun _ _ => True) v w3 := by
    intro j v w3 h
    match j, h with
    | 0, h => exact h rfl
    | 1, h => exact h rfl
    | 2, h => exact h rfl
    | 3, h => exact h rfl
    | 4, h => exact h rfl
    | 5, h => exact h rfl
    | 6, h => exact h rfl
    | 7, h => exact h rfl
    | 8, h => exact h rfl
    | 9, h => exact h rfl
    | 10, h => exact h rfl
    | 11, h => exact h rfl
    | 12, h => exact h rfl
    | 13, h => exact h rfl
    | 14, h => exact h rfl
    | 15, h => exact trivial
    | 16, h => exact h rfl
    | _ + 17, _ => exact trivial
  refine region_byG [IsV (.pointer (some ⟨R, 0, none⟩)),
    IsV (.pointer (some ⟨R, 0, none⟩)),
    IsV (.pointer (some ⟨R, 0, none⟩)),
    IsV (.slice A L c),
    IsV (.slice B N cl),
    IsV (.int .i64 (i : Int)),
    IsV (.pointer (some (ad2.add i))),
    IsV (.int .i64 (a : Int)),
    IsV (.pointer (some (ad.add a))),
    IsV (.int .u64 (U64 x)),
    IsV (.tuple #[.agg #[.int .i64 P, .int .i64 n, .bool false, .int .i64 0], .int .i64 0]),
    IsV (.tuple #[.agg #[.int .i64 P, .int .i64 n, .bool false, .int .i64 0], .int .i64 0]),
    IsV (.agg #[.int .i64 P, .int .i64 n, .bool false, .int .i64 0]),
    IsV (.int .i64 0),
    BoxV 88 4 w.heap.size,
    BoxC 88 (#[.int .i64 P, .int .i64 n, .bool false, .int .i64 0]) w.heap.size,
    IsV (.int .i64 0)] [(15, StD 88 4 w.heap.size)] [(15, 14)]
    [some 23, some 24, some 25, some 26, some 27, some 28, some 29, some 30, some 31, some 32, some 33, some 22, some 34, some 35, some 6, none, some 7] (by kernel_rfl) (by rw [hsz]; kernel_rfl) (by kernel_rfl) (by kernel_rfl) ?_ ?_ ?_ ?_
  · intro f hf
    simp only [List.mem_cons, List.not_mem_nil, or_false] at hf
    rcases hf with rfl | rfl | rfl | rfl | rfl | rfl | rfl | rfl | rfl | rfl | rfl | rfl | rfl | rfl | rfl | rfl | rfl <;> intro v a b h g <;> first | exact IsV.mono h | exact BoxV.mono h g | exact BoxC.mono h g
  · intro p hp
    simp only [List.mem_cons, List.not_mem_nil, or_false] at hp
    rcases hp with rfl
    · refine ⟨fun a b h1 h2 => StD.below (Nat.le_refl _) h1 h1.size h2, ?_⟩
      intro f hf
      simp only [List.eraseIdx_cons_succ, List.eraseIdx_cons_zero, List.mem_cons, List.not_mem_nil, or_false] at hf
      rcases hf with rfl | rfl | rfl | rfl | rfl | rfl | rfl | rfl | rfl | rfl | rfl | rfl | rfl | rfl | rfl | rfl <;> intro v a b h g <;> first | exact IsV.st h g | exact BoxV.st h g | exact BoxC.st (by decide) h g
  · refine ⟨?_, ?_, ?_, ?_, ?_, ?_, ?_, ?_, ?_, ?_, ?_, ?_, ?_, ?_, ?_, ?_, ?_, trivial⟩
    · refine OwesG.mk2 (D := Gw) (F' := fun j => ([IsV (.pointer (some ⟨R, 0, none⟩)), IsV (.pointer (some ⟨R, 0, none⟩)), IsV (.pointer (some ⟨R, 0, none⟩)), IsV (.slice A L c), IsV (.slice B N cl), IsV (.int .i64 (i : Int)), IsV (.pointer (some (ad2.add i))), IsV (.int .i64 (a : Int)), IsV (.pointer (some (ad.add a))), IsV (.int .u64 (U64 x)), IsV (.tuple #[.agg #[.int .i64 P, .int .i64 n, .bool false, .int .i64 0], .int .i64 0]), IsV (.tuple #[.agg #[.int .i64 P, .int .i64 n, .bool false, .int .i64 0], .int .i64 0]), IsV (.agg #[.int .i64 P, .int .i64 n, .bool false, .int .i64 0]), IsV (.int .i64 0), BoxV 88 4 w.heap.size, fun _ _ => True, IsV (.int .i64 0)] : List (Value → World → Prop)).getD j fun _ _ => True) rfl hGs (fun v w h => h) ?_
      exact owes_mvD gw_self 0 (by kernel_rfl) (by kernel_rfl) (by kernel_rfl) sl0 (fun _ => rfl)
    · refine OwesG.mk2 (D := Gw) (F' := fun j => ([IsV (.pointer (some ⟨R, 0, none⟩)), IsV (.pointer (some ⟨R, 0, none⟩)), IsV (.pointer (some ⟨R, 0, none⟩)), IsV (.slice A L c), IsV (.slice B N cl), IsV (.int .i64 (i : Int)), IsV (.pointer (some (ad2.add i))), IsV (.int .i64 (a : Int)), IsV (.pointer (some (ad.add a))), IsV (.int .u64 (U64 x)), IsV (.tuple #[.agg #[.int .i64 P, .int .i64 n, .bool false, .int .i64 0], .int .i64 0]), IsV (.tuple #[.agg #[.int .i64 P, .int .i64 n, .bool false, .int .i64 0], .int .i64 0]), IsV (.agg #[.int .i64 P, .int .i64 n, .bool false, .int .i64 0]), IsV (.int .i64 0), BoxV 88 4 w.heap.size, fun _ _ => True, IsV (.int .i64 0)] : List (Value → World → Prop)).getD j fun _ _ => True) rfl hGs (fun v w h => h) ?_
      refine owes_vD (Go.Op.nilCheck (Go.Operand.tmp 23)) 0 [0] (by kernel_rfl) (by kernel_rfl) (by kernel_rfl) rfl fun vals w1 ρ hG hF hρ hcst hfun => ?_
      have e23 : ρ (.tmp 23) = .pointer (some ⟨R, 0, none⟩) := ((hρ 23).trans (slotJ [0] (by rw [hsz]; decide) (by kernel_rfl))).trans (hF 0 (by decide))
      clear hρ hF hGs hcst hfun sl0 sl3 sl5 fin
      exact opv_val (by go_simp <;> rfl) ⟨gw_self _, rfl⟩
    · refine OwesG.mk2 (D := Gw) (F' := fun j => ([IsV (.pointer (some ⟨R, 0, none⟩)), IsV (.pointer (some ⟨R, 0, none⟩)), IsV (.pointer (some ⟨R, 0, none⟩)), IsV (.slice A L c), IsV (.slice B N cl), IsV (.int .i64 (i : Int)), IsV (.pointer (some (ad2.add i))), IsV (.int .i64 (a : Int)), IsV (.pointer (some (ad.add a))), IsV (.int .u64 (U64 x)), IsV (.tuple #[.agg #[.int .i64 P, .int .i64 n, .bool false, .int .i64 0], .int .i64 0]), IsV (.tuple #[.agg #[.int .i64 P, .int .i64 n, .bool false, .int .i64 0], .int .i64 0]), IsV (.agg #[.int .i64 P, .int .i64 n, .bool false, .int .i64 0]), IsV (.int .i64 0), BoxV 88 4 w.heap.size, fun _ _ => True, IsV (.int .i64 0)] : List (Value → World → Prop)).getD j fun _ _ => True) rfl hGs (fun v w h => h) ?_
      refine owes_vD (Go.Op.fieldAddr 41 (Go.Operand.tmp 24) 0) 0 [1] (by kernel_rfl) (by kernel_rfl) (by kernel_rfl) rfl fun vals w1 ρ hG hF hρ hcst hfun => ?_
      have e24 : ρ (.tmp 24) = .pointer (some ⟨R, 0, none⟩) := ((hρ 24).trans (slotJ [1] (by rw [hsz]; decide) (by kernel_rfl))).trans (hF 1 (by decide))
      clear hρ hF hGs hcst hfun sl0 sl3 sl5 fin
      exact opv_val (by go_simp <;> rfl) ⟨gw_self _, rfl⟩
    · refine OwesG.mk2 (D := Gw) (F' := fun j => ([IsV (.pointer (some ⟨R, 0, none⟩)), IsV (.pointer (some ⟨R, 0, none⟩)), IsV (.pointer (some ⟨R, 0, none⟩)), IsV (.slice A L c), IsV (.slice B N cl), IsV (.int .i64 (i : Int)), IsV (.pointer (some (ad2.add i))), IsV (.int .i64 (a : Int)), IsV (.pointer (some (ad.add a))), IsV (.int .u64 (U64 x)), IsV (.tuple #[.agg #[.int .i64 P, .int .i64 n, .bool false, .int .i64 0], .int .i64 0]), IsV (.tuple #[.agg #[.int .i64 P, .int .i64 n, .bool false, .int .i64 0], .int .i64 0]), IsV (.agg #[.int .i64 P, .int .i64 n, .bool false, .int .i64 0]), IsV (.int .i64 0), BoxV 88 4 w.heap.size, fun _ _ => True, IsV (.int .i64 0)] : List (Value → World → Prop)).getD j fun _ _ => True) rfl hGs (fun v w h => h) ?_
      refine owes_vD (Go.Op.load 22 (Go.Operand.tmp 25)) 22 [2] (by kernel_rfl) (by kernel_rfl) (by kernel_rfl) rfl fun vals w1 ρ hG hF hρ hcst hfun => ?_
      have e25 : ρ (.tmp 25) = .pointer (some ⟨R, 0, none⟩) := ((hρ 25).trans (slotJ [2] (by rw [hsz]; decide) (by kernel_rfl))).trans (hF 2 (by decide))
      have k := (hG.cell (p := ⟨R, 0, none⟩) hR).trans c0
      clear hρ hF hGs hcst hfun sl0 sl3 sl5 fin
      exact opv_val (by go_simp <;> rfl) ⟨gw_self _, rfl⟩
    · refine OwesG.mk2 (D := Gw) (F' := fun j => ([IsV (.pointer (some ⟨R, 0, none⟩)), IsV (.pointer (some ⟨R, 0, none⟩)), IsV (.pointer (some ⟨R, 0, none⟩)), IsV (.slice A L c), IsV (.slice B N cl), IsV (.int .i64 (i : Int)), IsV (.pointer (some (ad2.add i))), IsV (.int .i64 (a : Int)), IsV (.pointer (some (ad.add a))), IsV (.int .u64 (U64 x)), IsV (.tuple #[.agg #[.int .i64 P, .int .i64 n, .bool false, .int .i64 0], .int .i64 0]), IsV (.tuple #[.agg #[.int .i64 P, .int .i64 n, .bool false, .int .i64 0], .int .i64 0]), IsV (.agg #[.int .i64 P, .int .i64 n, .bool false, .int .i64 0]), IsV (.int .i64 0), BoxV 88 4 w.heap.size, fun _ _ => True, IsV (.int .i64 0)] : List (Value → World → Prop)).getD j fun _ _ => True) rfl hGs (fun v w h => h) ?_
      exact owes_mvD gw_self 3 (by kernel_rfl) (by kernel_rfl) (by kernel_rfl) sl3 (fun _ => rfl)
    · refine OwesG.mk2 (D := Gw) (F' := fun j => ([IsV (.pointer (some ⟨R, 0, none⟩)), IsV (.pointer (some ⟨R, 0, none⟩)), IsV (.pointer (some ⟨R, 0, none⟩)), IsV (.slice A L c), IsV (.slice B N cl), IsV (.int .i64 (i : Int)), IsV (.pointer (some (ad2.add i))), IsV (.int .i64 (a : Int)), IsV (.pointer (some (ad.add a))), IsV (.int .u64 (U64 x)), IsV (.tuple #[.agg #[.int .i64 P, .int .i64 n, .bool false, .int .i64 0], .int .i64 0]), IsV (.tuple #[.agg #[.int .i64 P, .int .i64 n, .bool false, .int .i64 0], .int .i64 0]), IsV (.agg #[.int .i64 P, .int .i64 n, .bool false, .int .i64 0]), IsV (.int .i64 0), BoxV 88 4 w.heap.size, fun _ _ => True, IsV (.int .i64 0)] : List (Value → World → Prop)).getD j fun _ _ => True) rfl hGs (fun v w h => h) ?_
      exact owes_mvD gw_self 5 (by kernel_rfl) (by kernel_rfl) (by kernel_rfl) sl5 (fun _ => rfl)
    · refine OwesG.mk2 (D := Gw) (F' := fun j => ([IsV (.pointer (some ⟨R, 0, none⟩)), IsV (.pointer (some ⟨R, 0, none⟩)), IsV (.pointer (some ⟨R, 0, none⟩)), IsV (.slice A L c), IsV (.slice B N cl), IsV (.int .i64 (i : Int)), IsV (.pointer (some (ad2.add i))), IsV (.int .i64 (a : Int)), IsV (.pointer (some (ad.add a))), IsV (.int .u64 (U64 x)), IsV (.tuple #[.agg #[.int .i64 P, .int .i64 n, .bool false, .int .i64 0], .int .i64 0]), IsV (.tuple #[.agg #[.int .i64 P, .int .i64 n, .bool false, .int .i64 0], .int .i64 0]), IsV (.agg #[.int .i64 P, .int .i64 n, .bool false, .int .i64 0]), IsV (.int .i64 0), BoxV 88 4 w.heap.size, fun _ _ => True, IsV (.int .i64 0)] : List (Value → World → Prop)).getD j fun _ _ => True) rfl hGs (fun v w h => h) ?_
      refine owes_vD (Go.Op.indexAddr 69 (Go.Operand.tmp 27) (Go.Operand.tmp 28)) 0 [4, 5] (by kernel_rfl) (by kernel_rfl) (by kernel_rfl) rfl fun vals w1 ρ hG hF hρ hcst hfun => ?_
      have e27 : ρ (.tmp 27) = .slice B N cl := ((hρ 27).trans (slotJ [4, 5] (by rw [hsz]; decide) (by kernel_rfl))).trans (hF 4 (by decide))
      have e28 : ρ (.tmp 28) = .int .i64 (i : Int) := ((hρ 28).trans (slotJ [4, 5] (by rw [hsz]; decide) (by kernel_rfl))).trans (hF 5 (by decide))
      subst hB
      clear hρ hF hGs hcst hfun sl0 sl3 sl5 fin
      exact opv_val (by go_simp <;> rfl) ⟨gw_self _, rfl⟩
    · refine OwesG.mk2 (D := Gw) (F' := fun j => ([IsV (.pointer (some ⟨R, 0, none⟩)), IsV (.pointer (some ⟨R, 0, none⟩)), IsV (.pointer (some ⟨R, 0, none⟩)), IsV (.slice A L c), IsV (.slice B N cl), IsV (.int .i64 (i : Int)), IsV (.pointer (some (ad2.add i))), IsV (.int .i64 (a : Int)), IsV (.pointer (some (ad.add a))), IsV (.int .u64 (U64 x)), IsV (.tuple #[.agg #[.int .i64 P, .int .i64 n, .bool false, .int .i64 0], .int .i64 0]), IsV (.tuple #[.agg #[.int .i64 P, .int .i64 n, .bool false, .int .i64 0], .int .i64 0]), IsV (.agg #[.int .i64 P, .int .i64 n, .bool false, .int .i64 0]), IsV (.int .i64 0), BoxV 88 4 w.heap.size, fun _ _ => True, IsV (.int .i64 0)] : List (Value → World → Prop)).getD j fun _ _ => True) rfl hGs (fun v w h => h) ?_
      refine owes_vD (Go.Op.load 3 (Go.Operand.tmp 29)) 3 [6] (by kernel_rfl) (by kernel_rfl) (by kernel_rfl) rfl fun vals w1 ρ hG hF hρ hcst hfun => ?_
      have e29 : ρ (.tmp 29) = .pointer (some (ad2.add i)) := ((hρ 29).trans (slotJ [6] (by rw [hsz]; decide) (by kernel_rfl))).trans (hF 6 (by decide))
      have k := (hG.cell (p := ad2.add i) hlt).trans cl1
      clear hρ hF hGs hcst hfun sl0 sl3 sl5 fin
      exact opv_val (by go_simp <;> rfl) ⟨gw_self _, rfl⟩
    · refine OwesG.mk2 (D := Gw) (F' := fun j => ([IsV (.pointer (some ⟨R, 0, none⟩)), IsV (.pointer (some ⟨R, 0, none⟩)), IsV (.pointer (some ⟨R, 0, none⟩)), IsV (.slice A L c), IsV (.slice B N cl), IsV (.int .i64 (i : Int)), IsV (.pointer (some (ad2.add i))), IsV (.int .i64 (a : Int)), IsV (.pointer (some (ad.add a))), IsV (.int .u64 (U64 x)), IsV (.tuple #[.agg #[.int .i64 P, .int .i64 n, .bool false, .int .i64 0], .int .i64 0]), IsV (.tuple #[.agg #[.int .i64 P, .int .i64 n, .bool false, .int .i64 0], .int .i64 0]), IsV (.agg #[.int .i64 P, .int .i64 n, .bool false, .int .i64 0]), IsV (.int .i64 0), BoxV 88 4 w.heap.size, fun _ _ => True, IsV (.int .i64 0)] : List (Value → World → Prop)).getD j fun _ _ => True) rfl hGs (fun v w h => h) ?_
      refine owes_vD (Go.Op.indexAddr 22 (Go.Operand.tmp 26) (Go.Operand.tmp 30)) 0 [3, 7] (by kernel_rfl) (by kernel_rfl) (by kernel_rfl) rfl fun vals w1 ρ hG hF hρ hcst hfun => ?_
      have e26 : ρ (.tmp 26) = .slice A L c := ((hρ 26).trans (slotJ [3, 7] (by rw [hsz]; decide) (by kernel_rfl))).trans (hF 3 (by decide))
      have e30 : ρ (.tmp 30) = .int .i64 (a : Int) := ((hρ 30).trans (slotJ [3, 7] (by rw [hsz]; decide) (by kernel_rfl))).trans (hF 7 (by decide))
      subst hA
      clear hρ hF hGs hcst hfun sl0 sl3 sl5 fin
      exact opv_val (by go_simp <;> rfl) ⟨gw_self _, rfl⟩
    · refine OwesG.mk2 (D := Gw) (F' := fun j => ([IsV (.pointer (some ⟨R, 0, none⟩)), IsV (.pointer (some ⟨R, 0, none⟩)), IsV (.pointer (some ⟨R, 0, none⟩)), IsV (.slice A L c), IsV (.slice B N cl), IsV (.int .i64 (i : Int)), IsV (.pointer (some (ad2.add i))), IsV (.int .i64 (a : Int)), IsV (.pointer (some (ad.add a))), IsV (.int .u64 (U64 x)), IsV (.tuple #[.agg #[.int .i64 P, .int .i64 n, .bool false, .int .i64 0], .int .i64 0]), IsV (.tuple #[.agg #[.int .i64 P, .int .i64 n, .bool false, .int .i64 0], .int .i64 0]), IsV (.agg #[.int .i64 P, .int .i64 n, .bool false, .int .i64 0]), IsV (.int .i64 0), BoxV 88 4 w.heap.size, fun _ _ => True, IsV (.int .i64 0)] : List (Value → World → Prop)).getD j fun _ _ => True) rfl hGs (fun v w h => h) ?_
      refine owes_vD (Go.Op.load 57 (Go.Operand.tmp 31)) 57 [8] (by kernel_rfl) (by kernel_rfl) (by kernel_rfl) rfl fun vals w1 ρ hG hF hρ hcst hfun => ?_
      have e31 : ρ (.tmp 31) = .pointer (some (ad.add a)) := ((hρ 31).trans (slotJ [8] (by rw [hsz]; decide) (by kernel_rfl))).trans (hF 8 (by decide))
      have k := (hG.cell (p := ad.add a) hlt2).trans cw
      clear hρ hF hGs hcst hfun sl0 sl3 sl5 fin
      exact opv_val (by go_simp <;> rfl) ⟨gw_self _, rfl⟩
    · refine OwesG.mk2 (D := Gw) (F' := fun j => ([IsV (.pointer (some ⟨R, 0, none⟩)), IsV (.pointer (some ⟨R, 0, none⟩)), IsV (.pointer (some ⟨R, 0, none⟩)), IsV (.slice A L c), IsV (.slice B N cl), IsV (.int .i64 (i : Int)), IsV (.pointer (some (ad2.add i))), IsV (.int .i64 (a : Int)), IsV (.pointer (some (ad.add a))), IsV (.int .u64 (U64 x)), IsV (.tuple #[.agg #[.int .i64 P, .int .i64 n, .bool false, .int .i64 0], .int .i64 0]), IsV (.tuple #[.agg #[.int .i64 P, .int .i64 n, .bool false, .int .i64 0], .int .i64 0]), IsV (.agg #[.int .i64 P, .int .i64 n, .bool false, .int .i64 0]), IsV (.int .i64 0), BoxV 88 4 w.heap.size, fun _ _ => True, IsV (.int .i64 0)] : List (Value → World → Prop)).getD j fun _ _ => True) rfl hGs (fun v w h => h) ?_
      refine owes_vD (Go.Op.call { callee := Go.Callee.value (Go.Operand.func 35), args := #[Go.Operand.tmp 32], argTypes := #[57] }) 89 [9] (by kernel_rfl) (by kernel_rfl) (by kernel_rfl) rfl fun vals w1 ρ hG hF hρ hcst hfun => ?_
      have e32 : ρ (.tmp 32) = .int .u64 (U64 x) := ((hρ 32).trans (slotJ [9] (by rw [hsz]; decide) (by kernel_rfl))).trans (hF 9 (by decide))
      clear hρ hF hGs hcst sl0 sl3 sl5 fin
      exact opv_enter (by go_simp <;> rfl) (of_ret (hp.out w1))
    · refine OwesG.mk2 (D := Gw) (F' := fun j => ([IsV (.pointer (some ⟨R, 0, none⟩)), IsV (.pointer (some ⟨R, 0, none⟩)), IsV (.pointer (some ⟨R, 0, none⟩)), IsV (.slice A L c), IsV (.slice B N cl), IsV (.int .i64 (i : Int)), IsV (.pointer (some (ad2.add i))), IsV (.int .i64 (a : Int)), IsV (.pointer (some (ad.add a))), IsV (.int .u64 (U64 x)), IsV (.tuple #[.agg #[.int .i64 P, .int .i64 n, .bool false, .int .i64 0], .int .i64 0]), IsV (.tuple #[.agg #[.int .i64 P, .int .i64 n, .bool false, .int .i64 0], .int .i64 0]), IsV (.agg #[.int .i64 P, .int .i64 n, .bool false, .int .i64 0]), IsV (.int .i64 0), BoxV 88 4 w.heap.size, fun _ _ => True, IsV (.int .i64 0)] : List (Value → World → Prop)).getD j fun _ _ => True) rfl hGs (fun v w h => h) ?_
      exact owes_mvjD gw_self 10 33 (by kernel_rfl) (by kernel_rfl) (by kernel_rfl) (by kernel_rfl) (by rw [hsz]; decide) (fun v w h => h)
    · refine OwesG.mk2 (D := Gw) (F' := fun j => ([IsV (.pointer (some ⟨R, 0, none⟩)), IsV (.pointer (some ⟨R, 0, none⟩)), IsV (.pointer (some ⟨R, 0, none⟩)), IsV (.slice A L c), IsV (.slice B N cl), IsV (.int .i64 (i : Int)), IsV (.pointer (some (ad2.add i))), IsV (.int .i64 (a : Int)), IsV (.pointer (some (ad.add a))), IsV (.int .u64 (U64 x)), IsV (.tuple #[.agg #[.int .i64 P, .int .i64 n, .bool false, .int .i64 0], .int .i64 0]), IsV (.tuple #[.agg #[.int .i64 P, .int .i64 n, .bool false, .int .i64 0], .int .i64 0]), IsV (.agg #[.int .i64 P, .int .i64 n, .bool false, .int .i64 0]), IsV (.int .i64 0), BoxV 88 4 w.heap.size, fun _ _ => True, IsV (.int .i64 0)] : List (Value → World → Prop)).getD j fun _ _ => True) rfl hGs (fun v w h => h) ?_
      refine owes_vD (Go.Op.extract (Go.Operand.tmp 22) 0) 88 [11] (by kernel_rfl) (by kernel_rfl) (by kernel_rfl) rfl fun vals w1 ρ hG hF hρ hcst hfun => ?_
      have e22 : ρ (.tmp 22) = .tuple #[.agg #[.int .i64 P, .int .i64 n, .bool false, .int .i64 0], .int .i64 0] := ((hρ 22).trans (slotJ [11] (by rw [hsz]; decide) (by kernel_rfl))).trans (hF 11 (by decide))
      clear hρ hF hGs hcst hfun sl0 sl3 sl5 fin
      exact opv_val (by go_simp <;> rfl) ⟨gw_self _, rfl⟩
    · refine OwesG.mk2 (D := Gw) (F' := fun j => ([IsV (.pointer (some ⟨R, 0, none⟩)), IsV (.pointer (some ⟨R, 0, none⟩)), IsV (.pointer (some ⟨R, 0, none⟩)), IsV (.slice A L c), IsV (.slice B N cl), IsV (.int .i64 (i : Int)), IsV (.pointer (some (ad2.add i))), IsV (.int .i64 (a : Int)), IsV (.pointer (some (ad.add a))), IsV (.int .u64 (U64 x)), IsV (.tuple #[.agg #[.int .i64 P, .int .i64 n, .bool false, .int .i64 0], .int .i64 0]), IsV (.tuple #[.agg #[.int .i64 P, .int .i64 n, .bool false, .int .i64 0], .int .i64 0]), IsV (.agg #[.int .i64 P, .int .i64 n, .bool false, .int .i64 0]), IsV (.int .i64 0), BoxV 88 4 w.heap.size, fun _ _ => True, IsV (.int .i64 0)] : List (Value → World → Prop)).getD j fun _ _ => True) rfl hGs (fun v w h => h) ?_
      refine owes_vD (Go.Op.extract (Go.Operand.tmp 22) 1) 3 [11] (by kernel_rfl) (by kernel_rfl) (by kernel_rfl) rfl fun vals w1 ρ hG hF hρ hcst hfun => ?_
      have e22 : ρ (.tmp 22) = .tuple #[.agg #[.int .i64 P, .int .i64 n, .bool false, .int .i64 0], .int .i64 0] := ((hρ 22).trans (slotJ [11] (by rw [hsz]; decide) (by kernel_rfl))).trans (hF 11 (by decide))
      clear hρ hF hGs hcst hfun sl0 sl3 sl5 fin
      exact opv_val (by go_simp <;> rfl) ⟨gw_self _, rfl⟩
    · refine OwesG.mk2 (D := Gw) (F' := fun j => ([IsV (.pointer (some ⟨R, 0, none⟩)), IsV (.pointer (some ⟨R, 0, none⟩)), IsV (.pointer (some ⟨R, 0, none⟩)), IsV (.slice A L c), IsV (.slice B N cl), IsV (.int .i64 (i : Int)), IsV (.pointer (some (ad2.add i))), IsV (.int .i64 (a : Int)), IsV (.pointer (some (ad.add a))), IsV (.int .u64 (U64 x)), IsV (.tuple #[.agg #[.int .i64 P, .int .i64 n, .bool false, .int .i64 0], .int .i64 0]), IsV (.tuple #[.agg #[.int .i64 P, .int .i64 n, .bool false, .int .i64 0], .int .i64 0]), IsV (.agg #[.int .i64 P, .int .i64 n, .bool false, .int .i64 0]), IsV (.int .i64 0), BoxV 88 4 w.heap.size, fun _ _ => True, IsV (.int .i64 0)] : List (Value → World → Prop)).getD j fun _ _ => True) rfl hGs (fun v w h => h) ?_
      refine owes_vD (Go.Op.alloc 88) 0 [] (by kernel_rfl) (by kernel_rfl) (by kernel_rfl) rfl fun vals w1 ρ hG hF hρ hcst hfun => ?_
      clear hρ hF hGs hcst hfun sl0 sl3 sl5 fin
      exact opv_val (by go_simp <;> rfl) ⟨Gw.alloc _ _, ⟨_, _, rfl, hG.size, rfl, Bk.new _ _ _⟩⟩
    · exact owes_box (type := 0) (tp := 6) (tv := 34) (jp := 14) (jv := 12) (cs := #[.int .i64 P, .int .i64 n, .bool false, .int .i64 0]) (by kernel_rfl) (by kernel_rfl) (by kernel_rfl) (by kernel_rfl) (by kernel_rfl) (by kernel_rfl) (by rw [hsz]; decide) (by rw [hsz]; decide) (by decide) rfl rfl rfl (by kernel_rfl) rfl (by simp [Value.oneCell']) (fun _ _ h => h) (fun _ _ h => h) (fun _ _ h => h)
    · refine OwesG.mk2 (D := Gw) (F' := fun j => ([IsV (.pointer (some ⟨R, 0, none⟩)), IsV (.pointer (some ⟨R, 0, none⟩)), IsV (.pointer (some ⟨R, 0, none⟩)), IsV (.slice A L c), IsV (.slice B N cl), IsV (.int .i64 (i : Int)), IsV (.pointer (some (ad2.add i))), IsV (.int .i64 (a : Int)), IsV (.pointer (some (ad.add a))), IsV (.int .u64 (U64 x)), IsV (.tuple #[.agg #[.int .i64 P, .int .i64 n, .bool false, .int .i64 0], .int .i64 0]), IsV (.tuple #[.agg #[.int .i64 P, .int .i64 n, .bool false, .int .i64 0], .int .i64 0]), IsV (.agg #[.int .i64 P, .int .i64 n, .bool false, .int .i64 0]), IsV (.int .i64 0), BoxV 88 4 w.heap.size, fun _ _ => True, IsV (.int .i64 0)] : List (Value → World → Prop)).getD j fun _ _ => True) rfl hGs (fun v w h => h) ?_
      exact owes_mvjD gw_self 13 35 (by kernel_rfl) (by kernel_rfl) (by kernel_rfl) (by kernel_rfl) (by rw [hsz]; decide) (fun v w h => h)
  · intro vals w1 hG hF
    exact fin vals w1 hG (hF 15 (by decide +kernel)) (hF 16 (by decide +kernel))
theorem wellN_no {ws : List (BitVec 64)} {l : List Nat} {a k : Nat} {R : Int} (hR : R = if l.all (wellN ws l) = true then 0 else 2) (ha : a ∈ l) (hk : k < P0 (ws.getD a 0#64)) (h : ptrN ws l a k = false) : R = 2 := by
  rw [hR, if_neg (all_no ha ?_)]
  unfold wellN
  rw [Bool.and_eq_false_iff]
  left
  cases h2 : (List.range (P0 (ws.getD a 0#64))).all (ptrN ws l a) with
  | false => rfl
  | true =>
    have := List.all_eq_true.1 h2 k (List.mem_range.2 hk)
    rw [h] at this; cases this
theorem wellN_np {ws : List (BitVec 64)} {l : List Nat} {a : Nat} {R : Int} (hR : R = if l.all (wellN ws l) = true then 0 else 2) (ha : a ∈ l) (h : padN ws a = false) : R = 2 := by
  rw [hR, if_neg (all_no ha ?_)]
  unfold wellN
  rw [h, Bool.and_false]
set_option maxHeartbeats 4000000
theorem rwell_c (w : World) (s : Nat) (A : Option Addr) (c : Nat) (ws : List (BitVec 64)) (b t e : Nat) (p : RefAt w s A c ws b t e) (hbt : b ≤ t) (htw : t ≤ ws.length) (hl : ws.length ≤ 8192) :
    Calls Try.prog 16 #[.pointer (some ⟨s, 0, none⟩)] w (RetP (.int .i64 (wellE ws b t)) w) := by
  have HOb := Lib.hid (robjects_c w s A c ws b t e p hbt htw (by omega))
  obtain ⟨R, hR⟩ : ∃ R, R = wellE ws b t := ⟨_, rfl⟩
  rw [← hR]
  have HR := Lib.hid hR
  have HP := Lib.hid p
  have HL := Lib.hid hl
  have HT := Lib.hid htw
  obtain ⟨N0, hN0⟩ : ∃ N, N = ws.length := ⟨_, rfl⟩
  have HN0 := Lib.hid hN0
  clear hR p hl hbt htw hN0
  cases ho : objF ws t (t + 1) b with
  | none =>
    rw [ho] at HOb
    have HOb2 := Lib.hid (show Calls Try.prog 38 #[.pointer (some ⟨s, 0, none⟩)] w (RetP (.tuple #[.slice none 0 0, .bool false]) w) from HOb.out)
    obtain rfl : R = 2 := by rw [HR.out]; exact well_none ho
    clear HOb ho HR
    go_enter Try.func16, Try.ntmps16
    go_wp2_with fail
    refine Calls.mono HOb2.out ?_
    rintro r w2 ⟨rfl, b2⟩
    have HB2 := Lib.hid b2
    clear b2
    go_wp2_with fail
    go_ret
    exact ⟨rfl, HB2.out⟩
  | some l =>
    rw [ho] at HOb
    have HOb2 := Lib.hid (show Calls Try.prog 38 #[.pointer (some ⟨s, 0, none⟩)] w (fun e w' => ∃ A c, e = .returned (.tuple #[.slice A l.length c, .bool true]) ∧ l.length ≤ c ∧ Ow iN 3 w' w.heap.size (.slice A l.length c) l ∧ Below w.heap.size w w') from HOb.out)
    have HRl := Lib.hid (show R = if l.all (wellN ws l) = true then 0 else 2 from by rw [HR.out]; exact well_some ho)
    have HMem := Lib.hid (objF_mem _ _ _ ho)
    have hlen := objF_len _ _ _ ho
    obtain ⟨N, hN⟩ : ∃ N, N = l.length := ⟨_, rfl⟩
    have qN : (N : Int) ≤ 8193 := by have := HT.out; have := HL.out; omega
    have HN := Lib.hid hN
    clear HOb ho HR hlen hN
    go_enter Try.func16, Try.ntmps16
    go_wp2_with fail
    refine Calls.mono HOb2.out ?_
    rintro r w2 ⟨B, cl, rfl, hc, ho, b2⟩
    have HB2 := Lib.hid b2
    have HRd := Lib.hid ho.rd
    rw [← HN.out]
    clear hc ho b2 HOb2
    go_wp2_with fail
    go_loopw [5] (fun i W => ∃ k : Nat, i = .int .i64 k ∧ k ≤ N ∧ Hid ((l.take k).all (wellN ws l) = true) ∧ Hid (Below w2.heap.size w2 W)) (fun i _ => N - (Go.RowKit.intOf i).toNat)
    case atStart => exact ⟨0, rfl, Nat.zero_le _, Lib.hid rfl, Lib.hid (Below.refl _ _)⟩
    case round =>
      obtain ⟨k, rfl, hk, hW, hB⟩ := hrel
      by_cases hlt : k < N
      · have hkl : k < l.length := by rw [← HN.out]; exact hlt
        obtain ⟨a, ha⟩ : ∃ a, a = l[k] := ⟨_, rfl⟩
        have ham : a ∈ l := by rw [ha]; exact List.getElem_mem _
        obtain ⟨hab, hat, hag⟩ := HMem.out a ham
        obtain ⟨ad2, rfl, hb2, hc⟩ := (HRd.out.below hB.out) k hkl
        rw [← ha] at hc
        unfold iN at hc
        have haN : a < N0 := by have := HT.out; have := HN0.out; omega
        have hp0 := HP.out.below (HB2.out.trans (hB.out.mono HB2.out.size))
        obtain ⟨d0, _⟩ := hp0.four
        rw [← HN0.out] at d0
        obtain ⟨ad, hA, hb3, hcw⟩ := hp0.rd a (by rw [← HN0.out]; exact haN)
        have hxx : u64v ws[a] = .int .u64 (U64 (ws.getD a 0#64)) := by simp [List.getD, (by rw [← HN0.out]; exact haN : a < ws.length), u64v]
        rw [hxx] at hcw
        obtain ⟨hun, hP64, hB1024, hsz, hsh, hroom⟩ := head_of hag
        have HUn := Lib.hid (fun W => hun ▸ runpack_c (ws.getD a 0#64) W)
        have HTk := Lib.hid (show l.take (k + 1) = l.take k ++ [a] from by rw [List.take_succ_eq_append_getElem hkl, ha])
        have HWp := Lib.hid (fun j (hj : j < P0 (ws.getD a 0#64)) (h : ptrN ws l a j = false) => wellN_no HRl.out ham hj h)
        have HWq := Lib.hid (fun (h : padN ws a = false) => wellN_np HRl.out ham h)
        have hpe : padB ws (8 * (a + 1 + P0 (ws.getD a 0#64)) + B0 (ws.getD a 0#64)) (8 * (a + szX (ws.getD a 0#64)) - (8 * (a + 1 + P0 (ws.getD a 0#64)) + B0 (ws.getD a 0#64))) = padN ws a := rfl
        have HPd := Lib.hid (fun W (hr : RefAt W s A c ws b t e) => hpe ▸ rpad_c W s A c ws b t e hr (by have := HL.out; omega) a (P0 (ws.getD a 0#64)) (B0 (ws.getD a 0#64)) (szX (ws.getD a 0#64)) hP64 hB1024 hsh (by omega) (by have := HT.out; omega) (by omega))
        have HPt := Lib.hid (fun W (hr : Rd iN W W.heap.size (some ad2) l) x => HN.out ▸ points_c W (some ad2) cl l hr (by rw [← HN.out]; omega) (fun y hy => by have := (HMem.out y hy).2.1; have := HT.out; have := HL.out; omega) x)
        have HWn : wellN ws l a = ((List.range (P0 (ws.getD a 0#64))).all (ptrN ws l a) && padN ws a) := rfl
        have hsz2 : a + 1 + P0 (ws.getD a 0#64) ≤ N0 := by rw [HN0.out]; have := HT.out; omega
        obtain ⟨x, hx⟩ : ∃ x, x = ws.getD a 0#64 := ⟨_, rfl⟩
        rw [← hx] at hcw HUn HWp HPd HWn hP64 hsz2
        obtain ⟨P, hP'⟩ : ∃ P, P = P0 x := ⟨_, rfl⟩
        obtain ⟨n, hn'⟩ : ∃ P, P = B0 x := ⟨_, rfl⟩
        rw [← hP'] at HUn HWp HPd HWn hP64 hsz2
        rw [← hn'] at HUn HPd
        have HWn2 := Lib.hid (And.intro HWn ham)
        have q0 : (0 : Int) ≤ (k : Int) := by omega
        have q1 : (k : Int) < (N : Int) := by omega
        have q2 : (0 : Int) ≤ (a : Int) := by omega
        have q6 : (a : Int) < (N0 : Int) := by omega
        have qP : (P : Int) ≤ 64 := by omega
        have qs : (a : Int) + 1 + (P : Int) ≤ (N0 : Int) := by omega
        have qn0 : (N0 : Int) ≤ 8192 := by have := HL.out; have := HN0.out; omega
        have hR : s < wr.heap.size := hp0.blk.lt
        have hlt1 : (ad2.add k).block < wr.heap.size := by rw [add_block]; exact Nat.lt_of_lt_of_le hb2 hB.out.size
        have hlt2 : (ad.add a).block < wr.heap.size := by rw [add_block]; exact hb3
        have HC0 := Lib.hid (And.intro hp0 (And.intro hc (And.intro hA (And.intro hb2 hb3))))
        clear ha hab hat hag hun hsz hsh hroom hpe HWn hP64 hB1024 hsz2 hx hP' hn' hxx haN ham hkl hp0
        go_wp2_with fail
        refine rw7 _ _ _ s a k N A (some ad2) N0 c cl x (P : Int) (n : Int) hR ad ad2 hA rfl d0 hlt1 hlt2 hc q0 q1 q2 q6 hcw HUn rfl rfl rfl rfl ?_
        intro vals w3 hG hbx h7
        obtain ⟨hk3, ek, hk3B, hbk⟩ := hbx
        unfold IsV at h7
        simp only [putO, Act.put, List.setIfInBounds_toArray, List.set_cons_zero, List.set_cons_succ, ek, h7]
        have H3 := Lib.hid (And.intro hbk (And.intro (hB.out.trans (hG.mono hB.out.size)) hG))
        clear hG h7 ek hbk hc hcw d0 hlt1 hlt2 hR HUn
        go_wp2_with fail
        go_loopw [8] (fun i W => ∃ j : Nat, i = .int .i64 j ∧ j ≤ P ∧ Hid ((List.range j).all (ptrN ws l a) = true) ∧ Hid (Below w3.heap.size w3 W)) (fun i _ => P - (Go.RowKit.intOf i).toNat)
        case atStart => exact ⟨0, rfl, Nat.zero_le _, Lib.hid rfl, Lib.hid (Below.refl _ _)⟩
        case round =>
          clear hlt hk
          obtain ⟨j, rfl, hj, hA2, hB3⟩ := hrel
          have hk4 := H3.out.1.below hB3.out H3.out.1.lt
          obtain ⟨k0, k1, k2, k3⟩ := hk4.four
          have hklt := hk4.lt
          have hgr := H3.out.2.2.trans (hB3.out.mono H3.out.2.2.size)
          have hp0 := HC0.out.1.below hgr
          obtain ⟨d0, _⟩ := hp0.four
          rw [← HN0.out] at d0
          have hRs : s < wr.heap.size := hp0.blk.lt
          have HBw := Lib.hid (H3.out.2.1.trans (hB3.out.mono H3.out.2.1.size))
          have hRl := Lib.hid ((HRd.out.below HBw.out).more HBw.out.size)
          have hcc : wr.cell? (ad2.add k) = some (.int .i64 (a : Int)) := (hgr.cell (p := ad2.add k) (by rw [add_block]; have := HC0.out.2.2.2.1; have := hB.out.size; omega)).trans HC0.out.2.1
          have hlt1 : (ad2.add k).block < wr.heap.size := by rw [add_block]; have := HC0.out.2.2.2.1; have := HBw.out.size; omega
          by_cases hjt : j < P
          · have hq : a + 1 + j < N0 := by omega
            obtain ⟨q, hqe⟩ : ∃ q, q = a + 1 + j := ⟨_, rfl⟩
            have hqw : q < ws.length := by rw [← HN0.out, hqe]; exact hq
            obtain ⟨ad', hA', hb4, hcy⟩ := hp0.rd q hqw
            have hadd : ad' = ad := by have := HC0.out.2.2.1; rw [hA'] at this; injection this
            subst hadd
            obtain ⟨y, hy⟩ : ∃ y, y = ws.getD q 0#64 := ⟨_, rfl⟩
            have hxx : u64v ws[q] = .int .u64 (U64 y) := by rw [hy]; simp [List.getD, hqw, u64v]
            rw [hxx] at hcy
            have hlt2 : (ad'.add q).block < wr.heap.size := by rw [add_block]; exact hb4
            have hpn : ptrN ws l a j = decide (y.toNat = 0 ∨ (1 ≤ y.toNat ∧ y.toNat - 1 ∈ l)) := by unfold ptrN; rw [hy, hqe]
            obtain ⟨r, hr⟩ : ∃ r, r = ptrN ws l a j := ⟨_, rfl⟩
            have HRg := Lib.hid (show (List.range (j + 1)).all (ptrN ws l a) = r from by rw [List.range_succ, List.all_append, hA2.out, hr]; simp)
            have HNo := Lib.hid (show r = false → R = 2 from fun h => HWp.out j hjt (by rw [← hr]; exact h))
            have HPc := Lib.hid (fun W (hb : Below wr.heap.size wr W) => (hr.trans hpn) ▸ HPt.out W ((hRl.out.below hb).more hb.size) y)
            have e7 : (a : Int) + 1 + (j : Int) = (q : Int) := by omega
            have e8 : (0 : Int) ≤ (q : Int) := by omega
            have e6 : (q : Int) < (N0 : Int) := by omega
            have e5 : (0 : Int) ≤ (j : Int) := by omega
            have e4 : (j : Int) ≤ 100 := by omega
            have e3 : (j : Int) < (P : Int) := by omega
            have e9 : (a : Int) ≤ 100000 := by omega
            clear hy hpn hxx hqw hqe hq hp0 hA2 hr hk4 hgr
            go_wp2_with fail
            refine rw11 _ _ _ s a j q k N A (some ad2) N0 c cl 0 0 0 0 r y hRs ad' ad2 hA rfl d0 hlt1 hlt2 hcc q0 q1 q2 e9 e4 e5 e6 e7 e8 hcy HPc rfl rfl rfl rfl rfl ?_
            intro vals2 w5 hG5 h57
            unfold IsV at h57
            simp only [putD, Act.put, List.setIfInBounds_toArray, List.set_cons_zero, List.set_cons_succ, h57]
            have HB5 := Lib.hid (hB3.out.trans (hG5.mono hB3.out.size))
            clear hG5 h57 k0 k1 k2 k3 d0 hcc hcy hRs hlt1 hlt2
            cases r with
            | false =>
              obtain rfl : R = 2 := HNo.out rfl
              go_wp2_with fail
              go_ret
              exact ⟨rfl, HB2.out.trans ((H3.out.2.1.trans (HB5.out.mono H3.out.2.1.size)).mono HB2.out.size)⟩
            | true =>
              have HX := Lib.hid HRg.out
              clear HNo HRg HPc
              go_wp2_with fail
              go_roundw
              case rel => first | exact ⟨j + 1, by go_num, by omega, HX, HB5⟩ | ((repeat apply Exists.intro); refine ⟨?_, rfl⟩; exact ⟨j + 1, by go_num, by omega, HX, HB5⟩)
              case measure => simp [Go.RowKit.intOf]; omega
          · have hjP : P = j := by omega
            subst hjP
            have HPd2 := Lib.hid (fun W (hb : Below wr.heap.size wr W) => HPd.out W (hp0.below hb))
            obtain ⟨pd, hpd⟩ : ∃ pd, pd = padN ws a := ⟨_, rfl⟩
            rw [← hpd] at HPd2
            have HWv := Lib.hid (show wellN ws l a = pd from by rw [HWn2.out.1, hA2.out, hpd]; rfl)
            have HWq2 := Lib.hid (show pd = false → R = 2 from fun h => HWq.out (by rw [← hpd]; exact h))
            clear hpd hp0 hA2 hjt hj hk4 hgr d0
            go_wp2_with fail
            refine rw13 _ _ _ s a k N hk3 (some ad2) cl (P : Int) (n : Int) (!pd) ad2 rfl hlt1 hcc q0 q1 hklt k0 k1 k2 k3 HPd2 rfl rfl rfl rfl rfl ?_
            intro vals2 w5 hG5 h64
            unfold IsV at h64
            simp only [putD, Act.put, List.setIfInBounds_toArray, List.set_cons_zero, List.set_cons_succ, h64]
            have HB5 := Lib.hid (HBw.out.trans (hG5.mono HBw.out.size))
            clear hG5 h64 k0 k1 k2 k3 hcc hRs hlt1 hklt
            cases pd with
            | false =>
              obtain rfl : R = 2 := HWq2.out rfl
              go_wp2_with fail
              go_ret
              exact ⟨rfl, HB2.out.trans (HB5.out.mono HB2.out.size)⟩
            | true =>
              have HX := Lib.hid (show (l.take (k + 1)).all (wellN ws l) = true from by rw [HTk.out, List.all_append, hW.out]; simp [HWv.out])
              clear HWq2 HPd2 HWv
              go_wp2_with fail
              go_roundw
              case rel => first | exact ⟨k + 1, by go_num, by omega, HX, HB5⟩ | ((repeat apply Exists.intro); refine ⟨?_, rfl⟩; exact ⟨k + 1, by go_num, by omega, HX, HB5⟩)
              case measure => simp [Go.RowKit.intOf]; omega
      · have hkN : N = k := by omega
        have hR0 : R = 0 := by
          rw [HRl.out]
          rw [if_pos]
          have := hW.out
          rwa [← hkN, HN.out, List.take_length] at this
        subst hkN
        subst hR0
        clear hW hlt hk
        go_wp2_with fail
        go_ret
        exact ⟨rfl, HB2.out.trans (hB.out.mono HB2.out.size)⟩
end Go.Proofs.Ytaminpfgkegibaa
/- check.look: its regions; one object more. Conditions: lengths. -/
namespace Go.Proofs.Ytaminpfgkegibaa
set_option linter.unusedVariables false
set_option linter.unusedSimpArgs false
open Go.RowKit Go.Maps
set_option maxHeartbeats 2000000
set_option maxRecDepth 100000
theorem lo5a (Q : Exit → Act → World → Prop) (a0 : Act) (w : World) (H : Nat) (er : Int) (he : ¬ er = 0) (hsz : a0.tmps.size = 69) (sl6 : a0.tmps.getD 6 undef = .int .i64 er)
    (fin : ∀ (vals : Nat → Value) (w1 : World), Below w.heap.size w w1 → (IsV (.bool true)) (vals 16) w1 → Q .normal (putD vals [27, 28, 29, 30, 31, 32, 33, 34, 35, 36, 37, 38, 39, 40, 41, 42, 43] 0 a0) w1) :
    (Code.region 5 (regIn Try.f22 5) true).wp Try.prog Q a0 w := by
  refine region_by (G := fun w w1 => Below w.heap.size w w1) [IsV (.int .i64 er),
    IsV (.bool true),
    IsV (.bool true),
    IsV undef,
    IsV undef,
    IsV (.bool true),
    IsV (.bool true),
    IsV undef,
    IsV undef,
    IsV undef,
    IsV undef,
    IsV undef,
    IsV undef,
    IsV undef,
    IsV undef,
    IsV undef,
    IsV (.bool true)]
    [27, 28, 29, 30, 31, 32, 33, 34, 35, 36, 37, 38, 39, 40, 41, 42, 43] (by kernel_rfl) (Gw.drew _) Gw.trans (by rw [hsz]; kernel_rfl) (by kernel_rfl) ?_ ?_ ?_
  · intro f hf
    simp only [List.mem_cons, List.not_mem_nil, or_false] at hf
    rcases hf with rfl | rfl | rfl | rfl | rfl | rfl | rfl | rfl | rfl | rfl | rfl | rfl | rfl | rfl | rfl | rfl | rfl <;> intro v a b h g <;> first | exact IsV.mono h
  · refine ⟨?_, ?_, ?_, ?_, ?_, ?_, ?_, ?_, ?_, ?_, ?_, ?_, ?_, ?_, ?_, ?_, ?_, trivial⟩
    · exact owes_mv 6 (by kernel_rfl) (by kernel_rfl) (by kernel_rfl) sl6 (fun _ => rfl)
    · refine owes_v (Go.Op.binOp Go.BinOp.neq 30 (Go.Operand.tmp 27) (Go.Operand.const (Go.Value.int Go.IntKind.i64 0)) 30) 4 [0] (by kernel_rfl) (by kernel_rfl) (by kernel_rfl) rfl fun vals w1 ρ hG hF hρ hcst hfun => ?_
      have e27 : ρ (.tmp 27) = .int .i64 er := ((hρ 27).trans (slotJ [0] (by rw [hsz]; decide) (by kernel_rfl))).trans (hF 0 (by decide))
      clear hρ hF hfun sl6 fin
      exact opv_val (by go_simp <;> rfl) ⟨gw_self _, rfl⟩
    · exact owes_mvj 1 28 (by kernel_rfl) (by kernel_rfl) (by kernel_rfl) (by kernel_rfl) (by rw [hsz]; decide) (fun v w h => h)
    · exact owes_no 2 true false (by decide) (by kernel_rfl) (by kernel_rfl) (fun _ _ h => h) (by rw [hsz]; kernel_rfl) (fun _ => rfl)
    · exact owes_no 2 true false (by decide) (by kernel_rfl) (by kernel_rfl) (fun _ _ h => h) (by rw [hsz]; kernel_rfl) (fun _ => rfl)
    · refine owes_v (Go.Op.pick (Go.Operand.tmp 29) (Go.Operand.const (Go.Value.bool true)) (Go.Operand.tmp 31)) 4 [2, 4] (by kernel_rfl) (by kernel_rfl) (by kernel_rfl) rfl fun vals w1 ρ hG hF hρ hcst hfun => ?_
      have e29 : ρ (.tmp 29) = .bool true := ((hρ 29).trans (slotJ [2, 4] (by rw [hsz]; decide) (by kernel_rfl))).trans (hF 2 (by decide))
      have e31 : ρ (.tmp 31) = undef := ((hρ 31).trans (slotJ [2, 4] (by rw [hsz]; decide) (by kernel_rfl))).trans (hF 4 (by decide))
      clear hρ hF hfun sl6 fin
      exact opv_val (by go_simp <;> rfl) ⟨gw_self _, rfl⟩
    · exact owes_mvj 5 32 (by kernel_rfl) (by kernel_rfl) (by kernel_rfl) (by kernel_rfl) (by rw [hsz]; decide) (fun v w h => h)
    · exact owes_no 6 true false (by decide) (by kernel_rfl) (by kernel_rfl) (fun _ _ h => h) (by rw [hsz]; kernel_rfl) (fun _ => rfl)
    · exact owes_no 6 true false (by decide) (by kernel_rfl) (by kernel_rfl) (fun _ _ h => h) (by rw [hsz]; kernel_rfl) (fun _ => rfl)
    · exact owes_no 6 true false (by decide) (by kernel_rfl) (by kernel_rfl) (fun _ _ h => h) (by rw [hsz]; kernel_rfl) (fun _ => rfl)
    · exact owes_no 6 true false (by decide) (by kernel_rfl) (by kernel_rfl) (fun _ _ h => h) (by rw [hsz]; kernel_rfl) (fun _ => rfl)
    · exact owes_no 6 true false (by decide) (by kernel_rfl) (by kernel_rfl) (fun _ _ h => h) (by rw [hsz]; kernel_rfl) (fun _ => rfl)
    · exact owes_no 6 true false (by decide) (by kernel_rfl) (by kernel_rfl) (fun _ _ h => h) (by rw [hsz]; kernel_rfl) (fun _ => rfl)
    · exact owes_no 6 true false (by decide) (by kernel_rfl) (by kernel_rfl) (fun _ _ h => h) (by rw [hsz]; kernel_rfl) (fun _ => rfl)
    · exact owes_no 6 true false (by decide) (by kernel_rfl) (by kernel_rfl) (fun _ _ h => h) (by rw [hsz]; kernel_rfl) (fun _ => rfl)
    · exact owes_no 6 true false (by decide) (by kernel_rfl) (by kernel_rfl) (fun _ _ h => h) (by rw [hsz]; kernel_rfl) (fun _ => rfl)
    · refine owes_v (Go.Op.pick (Go.Operand.tmp 33) (Go.Operand.const (Go.Value.bool true)) (Go.Operand.tmp 42)) 4 [6, 15] (by kernel_rfl) (by kernel_rfl) (by kernel_rfl) rfl fun vals w1 ρ hG hF hρ hcst hfun => ?_
      have e33 : ρ (.tmp 33) = .bool true := ((hρ 33).trans (slotJ [6, 15] (by rw [hsz]; decide) (by kernel_rfl))).trans (hF 6 (by decide))
      have e42 : ρ (.tmp 42) = undef := ((hρ 42).trans (slotJ [6, 15] (by rw [hsz]; decide) (by kernel_rfl))).trans (hF 15 (by decide))
      clear hρ hF hfun sl6 fin
      exact opv_val (by go_simp <;> rfl) ⟨gw_self _, rfl⟩
  · intro vals w1 hG hF
    exact fin vals w1 hG (hF 16 (by decide +kernel))
theorem lo5c (Q : Exit → Act → World → Prop) (a0 : Act) (w : World) (H s a t : Nat) (P n sz : Int) (r : Bool) (hH : H < w.heap.size) (hs : s < w.heap.size) (g0 : w.cell? ⟨H, 0, none⟩ = some (.int .i64 P)) (g1 : w.cell? ⟨H, 1, none⟩ = some (.int .i64 n)) (g2 : w.cell? ⟨H, 2, none⟩ = some (.bool false)) (g3 : w.cell? ⟨H, 3, none⟩ = some (.int .i64 0)) (d2 : w.cell? ⟨s, 2, none⟩ = some (.int .i64 (t : Int))) (ha : (a : Int) < (t : Int)) (ht : (t : Int) ≤ 8192) (qa : (0 : Int) ≤ (a : Int)) (hr : decide ((t : Int) - (a : Int) < sz) = r) (hp : Hid (∀ W, Calls Try.prog 48 #[.agg #[.int .i64 P, .int .i64 n, .bool false, .int .i64 0]] W (RetP (.int .i64 sz) W))) (hsz : a0.tmps.size = 69) (sl0 : a0.tmps.getD 0 undef = .pointer (some ⟨s, 0, none⟩)) (sl4 : a0.tmps.getD 4 undef = .int .i64 (a : Int)) (sl5 : a0.tmps.getD 5 undef = .pointer (some ⟨H, 0, none⟩)) (sl6 : a0.tmps.getD 6 undef = .int .i64 0)
    (fin : ∀ (vals : Nat → Value) (w1 : World), Below w.heap.size w w1 → (IsV (.bool r)) (vals 16) w1 → Q .normal (putD vals [27, 28, 29, 30, 31, 32, 33, 34, 35, 36, 37, 38, 39, 40, 41, 42, 43] 0 a0) w1) :
    (Code.region 5 (regIn Try.f22 5) true).wp Try.prog Q a0 w := by
  refine region_by (G := fun w w1 => Below w.heap.size w w1) [IsV (.int .i64 0),
    IsV (.bool false),
    IsV (.bool false),
    IsV (.pointer (some ⟨H, 2, none⟩)),
    IsV (.bool false),
    IsV (.bool false),
    IsV (.bool false),
    IsV (.agg #[.int .i64 P, .int .i64 n, .bool false, .int .i64 0]),
    IsV (.int .i64 sz),
    IsV (.pointer (some ⟨s, 0, none⟩)),
    IsV (.pointer (some ⟨s, 0, none⟩)),
    IsV (.pointer (some ⟨s, 2, none⟩)),
    IsV (.int .i64 (t : Int)),
    IsV (.int .i64 (a : Int)),
    IsV (.int .i64 ((t : Int) - (a : Int))),
    IsV (.bool r),
    IsV (.bool r)]
    [27, 28, 29, 30, 31, 32, 33, 34, 35, 36, 37, 38, 39, 40, 41, 42, 43] (by kernel_rfl) (Gw.drew _) Gw.trans (by rw [hsz]; kernel_rfl) (by kernel_rfl) ?_ ?_ ?_
  · intro f hf
    simp only [List.mem_cons, List.not_mem_nil, or_false] at hf
    rcases hf with rfl | rfl | rfl | rfl | rfl | rfl | rfl | rfl | rfl | rfl | rfl | rfl | rfl | rfl | rfl | rfl | rfl <;> intro v a b h g <;> first | exact IsV.mono h
  · refine ⟨?_, ?_, ?_, ?_, ?_, ?_, ?_, ?_, ?_, ?_, ?_, ?_, ?_, ?_, ?_, ?_, ?_, trivial⟩
    · exact owes_mv 6 (by kernel_rfl) (by kernel_rfl) (by kernel_rfl) sl6 (fun _ => rfl)
    · refine owes_v (Go.Op.binOp Go.BinOp.neq 30 (Go.Operand.tmp 27) (Go.Operand.const (Go.Value.int Go.IntKind.i64 0)) 30) 4 [0] (by kernel_rfl) (by kernel_rfl) (by kernel_rfl) rfl fun vals w1 ρ hG hF hρ hcst hfun => ?_
      have e27 : ρ (.tmp 27) = .int .i64 0 := ((hρ 27).trans (slotJ [0] (by rw [hsz]; decide) (by kernel_rfl))).trans (hF 0 (by decide))
      clear hρ hF hfun sl0 sl4 sl5 sl6 fin
      exact opv_val (by go_simp <;> rfl) ⟨gw_self _, rfl⟩
    · exact owes_mvj 1 28 (by kernel_rfl) (by kernel_rfl) (by kernel_rfl) (by kernel_rfl) (by rw [hsz]; decide) (fun v w h => h)
    · refine owes_vt 2 false (Go.Op.fieldAddr 111 (Go.Operand.tmp 5) 2) 0 [] (by kernel_rfl) (by kernel_rfl) (by kernel_rfl) (fun _ _ h => h) (by rw [hsz]; kernel_rfl) (by kernel_rfl) rfl fun vals w1 ρ hG hF hρ hcst hfun => ?_
      have e5 : ρ (.tmp 5) = .pointer (some ⟨H, 0, none⟩) := ((hρ 5).trans (slotO [] (by kernel_rfl))).trans sl5
      clear hρ hF hcst hfun sl0 sl4 sl5 sl6 fin
      exact opv_val (by go_simp <;> rfl) ⟨gw_self _, rfl⟩
    · refine owes_vt 2 false (Go.Op.load 4 (Go.Operand.tmp 30)) 4 [3] (by kernel_rfl) (by kernel_rfl) (by kernel_rfl) (fun _ _ h => h) (by rw [hsz]; kernel_rfl) (by kernel_rfl) rfl fun vals w1 ρ hG hF hρ hcst hfun => ?_
      have e30 : ρ (.tmp 30) = .pointer (some ⟨H, 2, none⟩) := ((hρ 30).trans (slotJ [3] (by rw [hsz]; decide) (by kernel_rfl))).trans (hF 3 (by decide))
      have k := (hG.cell (p := ⟨H, 2, none⟩) hH).trans g2
      clear hρ hF hcst hfun sl0 sl4 sl5 sl6 fin
      exact opv_val (by go_simp <;> rfl) ⟨gw_self _, rfl⟩
    · refine owes_v (Go.Op.pick (Go.Operand.tmp 29) (Go.Operand.const (Go.Value.bool true)) (Go.Operand.tmp 31)) 4 [2, 4] (by kernel_rfl) (by kernel_rfl) (by kernel_rfl) rfl fun vals w1 ρ hG hF hρ hcst hfun => ?_
      have e29 : ρ (.tmp 29) = .bool false := ((hρ 29).trans (slotJ [2, 4] (by rw [hsz]; decide) (by kernel_rfl))).trans (hF 2 (by decide))
      have e31 : ρ (.tmp 31) = .bool false := ((hρ 31).trans (slotJ [2, 4] (by rw [hsz]; decide) (by kernel_rfl))).trans (hF 4 (by decide))
      clear hρ hF hfun sl0 sl4 sl5 sl6 fin
      exact opv_val (by go_simp <;> rfl) ⟨gw_self _, rfl⟩
    · exact owes_mvj 5 32 (by kernel_rfl) (by kernel_rfl) (by kernel_rfl) (by kernel_rfl) (by rw [hsz]; decide) (fun v w h => h)
    · refine owes_vt 6 false (Go.Op.load 111 (Go.Operand.tmp 5)) 111 [] (by kernel_rfl) (by kernel_rfl) (by kernel_rfl) (fun _ _ h => h) (by rw [hsz]; kernel_rfl) (by kernel_rfl) rfl fun vals w1 ρ hG hF hρ hcst hfun => ?_
      have e5 : ρ (.tmp 5) = .pointer (some ⟨H, 0, none⟩) := ((hρ 5).trans (slotO [] (by kernel_rfl))).trans sl5
      have k0 := (hG.cell (p := ⟨H, 0, none⟩) hH).trans g0; have k1 := (hG.cell (p := ⟨H, 1, none⟩) hH).trans g1; have k2 := (hG.cell (p := ⟨H, 2, none⟩) hH).trans g2; have k3 := (hG.cell (p := ⟨H, 3, none⟩) hH).trans g3
      clear hρ hF hcst hfun sl0 sl4 sl5 sl6 fin
      exact opv_val (by go_simp <;> rfl) ⟨gw_self _, rfl⟩
    · refine owes_vt 6 false (Go.Op.call { callee := Go.Callee.value (Go.Operand.func 48), args := #[Go.Operand.tmp 34], argTypes := #[111] }) 3 [7] (by kernel_rfl) (by kernel_rfl) (by kernel_rfl) (fun _ _ h => h) (by rw [hsz]; kernel_rfl) (by kernel_rfl) rfl fun vals w1 ρ hG hF hρ hcst hfun => ?_
      have e34 : ρ (.tmp 34) = .agg #[.int .i64 P, .int .i64 n, .bool false, .int .i64 0] := ((hρ 34).trans (slotJ [7] (by rw [hsz]; decide) (by kernel_rfl))).trans (hF 7 (by decide))
      clear hρ hF hcst sl0 sl4 sl5 sl6 fin
      exact opv_enter (by go_simp <;> rfl) (of_ret (hp.out w1))
    · refine owes_vt 6 false (Go.Op.move (Go.Operand.tmp 0)) 37 [] (by kernel_rfl) (by kernel_rfl) (by kernel_rfl) (fun _ _ h => h) (by rw [hsz]; kernel_rfl) (by kernel_rfl) rfl fun vals w1 ρ hG hF hρ hcst hfun => ?_
      have e0 : ρ (.tmp 0) = .pointer (some ⟨s, 0, none⟩) := ((hρ 0).trans (slotO [] (by kernel_rfl))).trans sl0
      clear hρ hF hcst hfun sl0 sl4 sl5 sl6 fin
      exact opv_val (by go_simp <;> rfl) ⟨gw_self _, rfl⟩
    · refine owes_vt 6 false (Go.Op.nilCheck (Go.Operand.tmp 36)) 0 [9] (by kernel_rfl) (by kernel_rfl) (by kernel_rfl) (fun _ _ h => h) (by rw [hsz]; kernel_rfl) (by kernel_rfl) rfl fun vals w1 ρ hG hF hρ hcst hfun => ?_
      have e36 : ρ (.tmp 36) = .pointer (some ⟨s, 0, none⟩) := ((hρ 36).trans (slotJ [9] (by rw [hsz]; decide) (by kernel_rfl))).trans (hF 9 (by decide))
      clear hρ hF hcst hfun sl0 sl4 sl5 sl6 fin
      exact opv_val (by go_simp <;> rfl) ⟨gw_self _, rfl⟩
    · refine owes_vt 6 false (Go.Op.fieldAddr 67 (Go.Operand.tmp 37) 2) 0 [10] (by kernel_rfl) (by kernel_rfl) (by kernel_rfl) (fun _ _ h => h) (by rw [hsz]; kernel_rfl) (by kernel_rfl) rfl fun vals w1 ρ hG hF hρ hcst hfun => ?_
      have e37 : ρ (.tmp 37) = .pointer (some ⟨s, 0, none⟩) := ((hρ 37).trans (slotJ [10] (by rw [hsz]; decide) (by kernel_rfl))).trans (hF 10 (by decide))
      clear hρ hF hcst hfun sl0 sl4 sl5 sl6 fin
      exact opv_val (by go_simp <;> rfl) ⟨gw_self _, rfl⟩
    · refine owes_vt 6 false (Go.Op.load 3 (Go.Operand.tmp 38)) 3 [11] (by kernel_rfl) (by kernel_rfl) (by kernel_rfl) (fun _ _ h => h) (by rw [hsz]; kernel_rfl) (by kernel_rfl) rfl fun vals w1 ρ hG hF hρ hcst hfun => ?_
      have e38 : ρ (.tmp 38) = .pointer (some ⟨s, 2, none⟩) := ((hρ 38).trans (slotJ [11] (by rw [hsz]; decide) (by kernel_rfl))).trans (hF 11 (by decide))
      have k := (hG.cell (p := ⟨s, 2, none⟩) hs).trans d2
      clear hρ hF hcst hfun sl0 sl4 sl5 sl6 fin
      exact opv_val (by go_simp <;> rfl) ⟨gw_self _, rfl⟩
    · refine owes_vt 6 false (Go.Op.move (Go.Operand.tmp 4)) 3 [] (by kernel_rfl) (by kernel_rfl) (by kernel_rfl) (fun _ _ h => h) (by rw [hsz]; kernel_rfl) (by kernel_rfl) rfl fun vals w1 ρ hG hF hρ hcst hfun => ?_
      have e4 : ρ (.tmp 4) = .int .i64 (a : Int) := ((hρ 4).trans (slotO [] (by kernel_rfl))).trans sl4
      clear hρ hF hcst hfun sl0 sl4 sl5 sl6 fin
      exact opv_val (by go_simp <;> rfl) ⟨gw_self _, rfl⟩
    · refine owes_vt 6 false (Go.Op.binOp Go.BinOp.sub 3 (Go.Operand.tmp 39) (Go.Operand.tmp 40) 3) 3 [12, 13] (by kernel_rfl) (by kernel_rfl) (by kernel_rfl) (fun _ _ h => h) (by rw [hsz]; kernel_rfl) (by kernel_rfl) rfl fun vals w1 ρ hG hF hρ hcst hfun => ?_
      have e39 : ρ (.tmp 39) = .int .i64 (t : Int) := ((hρ 39).trans (slotJ [12, 13] (by rw [hsz]; decide) (by kernel_rfl))).trans (hF 12 (by decide))
      have e40 : ρ (.tmp 40) = .int .i64 (a : Int) := ((hρ 40).trans (slotJ [12, 13] (by rw [hsz]; decide) (by kernel_rfl))).trans (hF 13 (by decide))
      have kw0 : IntKind.i64.wrap (((t : Int) - (a : Int))) = ((t : Int) - (a : Int)) := wrapIn (by omega) (by omega)
      clear hρ hF hcst hfun sl0 sl4 sl5 sl6 fin
      exact opv_val (by go_simp <;> rfl) ⟨gw_self _, rfl⟩
    · refine owes_vt 6 false (Go.Op.binOp Go.BinOp.gtr 3 (Go.Operand.tmp 35) (Go.Operand.tmp 41) 3) 4 [8, 14] (by kernel_rfl) (by kernel_rfl) (by kernel_rfl) (fun _ _ h => h) (by rw [hsz]; kernel_rfl) (by kernel_rfl) rfl fun vals w1 ρ hG hF hρ hcst hfun => ?_
      have e35 : ρ (.tmp 35) = .int .i64 sz := ((hρ 35).trans (slotJ [8, 14] (by rw [hsz]; decide) (by kernel_rfl))).trans (hF 8 (by decide))
      have e41 : ρ (.tmp 41) = .int .i64 ((t : Int) - (a : Int)) := ((hρ 41).trans (slotJ [8, 14] (by rw [hsz]; decide) (by kernel_rfl))).trans (hF 14 (by decide))
      subst hr
      clear hρ hF hcst hfun sl0 sl4 sl5 sl6 fin
      exact opv_val (by go_simp <;> rfl) ⟨gw_self _, rfl⟩
    · refine owes_v (Go.Op.pick (Go.Operand.tmp 33) (Go.Operand.const (Go.Value.bool true)) (Go.Operand.tmp 42)) 4 [6, 15] (by kernel_rfl) (by kernel_rfl) (by kernel_rfl) rfl fun vals w1 ρ hG hF hρ hcst hfun => ?_
      have e33 : ρ (.tmp 33) = .bool false := ((hρ 33).trans (slotJ [6, 15] (by rw [hsz]; decide) (by kernel_rfl))).trans (hF 6 (by decide))
      have e42 : ρ (.tmp 42) = .bool r := ((hρ 42).trans (slotJ [6, 15] (by rw [hsz]; decide) (by kernel_rfl))).trans (hF 15 (by decide))
      clear hρ hF hfun sl0 sl4 sl5 sl6 fin
      exact opv_val (by go_simp <;> rfl) ⟨gw_self _, rfl⟩
  · intro vals w1 hG hF
    exact fin vals w1 hG (hF 16 (by decide +kernel))
theorem lo8 (Q : Exit → Act → World → Prop) (a0 : Act) (w : World) (H Xb mb a : Nat) (P n sz : Int) (hH : H < w.heap.size) (hX : Xb < w.heap.size) (g0 : w.cell? ⟨H, 0, none⟩ = some (.int .i64 P)) (g1 : w.cell? ⟨H, 1, none⟩ = some (.int .i64 n)) (g2 : w.cell? ⟨H, 2, none⟩ = some (.bool false)) (g3 : w.cell? ⟨H, 3, none⟩ = some (.int .i64 0)) (c2 : w.cell? ⟨Xb, 2, none⟩ = some (.map (some mb))) (hp : Hid (∀ W, Calls Try.prog 48 #[.agg #[.int .i64 P, .int .i64 n, .bool false, .int .i64 0]] W (RetP (.int .i64 sz) W))) (hsz : a0.tmps.size = 69) (sl3 : a0.tmps.getD 3 undef = .pointer (some ⟨Xb, 0, none⟩)) (sl4 : a0.tmps.getD 4 undef = .int .i64 (a : Int)) (sl5 : a0.tmps.getD 5 undef = .pointer (some ⟨H, 0, none⟩))
    (fin : ∀ (vals : Nat → Value) (w1 : World), Below w.heap.size w w1 → (IsV (.map (some mb))) (vals 3) w1 → (IsV (.int .i64 (a : Int))) (vals 4) w1 → (IsV (.int .i64 sz)) (vals 6) w1 → wpList Try.prog #[{ dst := none, op := Go.Op.mapUpdate 70 (Go.Operand.tmp 60) (Go.Operand.tmp 61) (Go.Operand.tmp 63), type := 0, pos := "", after := #[], guard := none }] Q [{ dst := none, op := Go.Op.mapUpdate 70 (Go.Operand.tmp 60) (Go.Operand.tmp 61) (Go.Operand.tmp 63), type := 0, pos := "", after := #[], guard := none }] (putD vals [57, 58, 59, 60, 61, 62, 63] 0 a0) w1) :
    (Code.region 8 (regIn Try.f22 8) true).wp Try.prog Q a0 w := by
  refine region_by_tail (m := 7) (G := fun w w1 => Below w.heap.size w w1) [IsV (.pointer (some ⟨Xb, 0, none⟩)),
    IsV (.pointer (some ⟨Xb, 0, none⟩)),
    IsV (.pointer (some ⟨Xb, 2, none⟩)),
    IsV (.map (some mb)),
    IsV (.int .i64 (a : Int)),
    IsV (.agg #[.int .i64 P, .int .i64 n, .bool false, .int .i64 0]),
    IsV (.int .i64 sz)]
    [57, 58, 59, 60, 61, 62, 63] (by kernel_rfl) (Gw.drew _) Gw.trans (by rw [hsz]; kernel_rfl) (by kernel_rfl) ?_ ?_ ?_
  · intro f hf
    simp only [List.mem_cons, List.not_mem_nil, or_false] at hf
    rcases hf with rfl | rfl | rfl | rfl | rfl | rfl | rfl <;> intro v a b h g <;> first | exact IsV.mono h
  · refine ⟨?_, ?_, ?_, ?_, ?_, ?_, ?_, trivial⟩
    · exact owes_mv 3 (by kernel_rfl) (by kernel_rfl) (by kernel_rfl) sl3 (fun _ => rfl)
    · refine owes_v (Go.Op.nilCheck (Go.Operand.tmp 57)) 0 [0] (by kernel_rfl) (by kernel_rfl) (by kernel_rfl) rfl fun vals w1 ρ hG hF hρ hcst hfun => ?_
      have e57 : ρ (.tmp 57) = .pointer (some ⟨Xb, 0, none⟩) := ((hρ 57).trans (slotJ [0] (by rw [hsz]; decide) (by kernel_rfl))).trans (hF 0 (by decide))
      clear hρ hF hcst hfun sl3 sl4 sl5 fin
      exact opv_val (by go_simp <;> rfl) ⟨gw_self _, rfl⟩
    · refine owes_v (Go.Op.fieldAddr 72 (Go.Operand.tmp 58) 2) 0 [1] (by kernel_rfl) (by kernel_rfl) (by kernel_rfl) rfl fun vals w1 ρ hG hF hρ hcst hfun => ?_
      have e58 : ρ (.tmp 58) = .pointer (some ⟨Xb, 0, none⟩) := ((hρ 58).trans (slotJ [1] (by rw [hsz]; decide) (by kernel_rfl))).trans (hF 1 (by decide))
      clear hρ hF hcst hfun sl3 sl4 sl5 fin
      exact opv_val (by go_simp <;> rfl) ⟨gw_self _, rfl⟩
    · refine owes_v (Go.Op.load 70 (Go.Operand.tmp 59)) 70 [2] (by kernel_rfl) (by kernel_rfl) (by kernel_rfl) rfl fun vals w1 ρ hG hF hρ hcst hfun => ?_
      have e59 : ρ (.tmp 59) = .pointer (some ⟨Xb, 2, none⟩) := ((hρ 59).trans (slotJ [2] (by rw [hsz]; decide) (by kernel_rfl))).trans (hF 2 (by decide))
      have k := (hG.cell (p := ⟨Xb, 2, none⟩) hX).trans c2
      clear hρ hF hcst hfun sl3 sl4 sl5 fin
      exact opv_val (by go_simp <;> rfl) ⟨gw_self _, rfl⟩
    · exact owes_mv 4 (by kernel_rfl) (by kernel_rfl) (by kernel_rfl) sl4 (fun _ => rfl)
    · refine owes_v (Go.Op.load 111 (Go.Operand.tmp 5)) 111 [] (by kernel_rfl) (by kernel_rfl) (by kernel_rfl) rfl fun vals w1 ρ hG hF hρ hcst hfun => ?_
      have e5 : ρ (.tmp 5) = .pointer (some ⟨H, 0, none⟩) := ((hρ 5).trans (slotO [] (by kernel_rfl))).trans sl5
      have k0 := (hG.cell (p := ⟨H, 0, none⟩) hH).trans g0; have k1 := (hG.cell (p := ⟨H, 1, none⟩) hH).trans g1; have k2 := (hG.cell (p := ⟨H, 2, none⟩) hH).trans g2; have k3 := (hG.cell (p := ⟨H, 3, none⟩) hH).trans g3
      clear hρ hF hcst hfun sl3 sl4 sl5 fin
      exact opv_val (by go_simp <;> rfl) ⟨gw_self _, rfl⟩
    · refine owes_v (Go.Op.call { callee := Go.Callee.value (Go.Operand.func 48), args := #[Go.Operand.tmp 62], argTypes := #[111] }) 3 [5] (by kernel_rfl) (by kernel_rfl) (by kernel_rfl) rfl fun vals w1 ρ hG hF hρ hcst hfun => ?_
      have e62 : ρ (.tmp 62) = .agg #[.int .i64 P, .int .i64 n, .bool false, .int .i64 0] := ((hρ 62).trans (slotJ [5] (by rw [hsz]; decide) (by kernel_rfl))).trans (hF 5 (by decide))
      clear hρ hF hcst sl3 sl4 sl5 fin
      exact opv_enter (by go_simp <;> rfl) (of_ret (hp.out w1))
  · intro vals w1 hG hF
    exact last_list (by kernel_rfl) (by kernel_rfl) (by kernel_rfl) (fin vals w1 hG (hF 3 (by decide +kernel)) (hF 4 (by decide +kernel)) (hF 6 (by decide +kernel)))
section
variable {W W' : World} {B Xb sv mb : Nat} {rv lv : Value} {ws : List (BitVec 64)} {p : List Nat} {fs : List (Nat × ByteArray)}
/-- A place more in the row. -/
theorem LkAt.place {w w6 : World} {o : Obj} {v6 : Value} {a : Nat} (h : LkAt w B Xb sv mb rv lv ws p fs) (ho : Ow iN 3 w6 B v6 (p ++ [a])) (hg : (w.alloc o).grownBy w6 rv.ownBlock) (hv : v6.ownBlock = rv.ownBlock ∨ v6.ownBlock = some (w.alloc o).heap.size) :
    ∀ W, W = w6.setCell ⟨Xb, 1, none⟩ v6 → Bk W Xb 72 #[.pointer (some ⟨sv, 0, none⟩), v6, .map (some mb), lv] ∧ Ow iN 3 W B v6 (p ++ [a]) ∧ MapIs W (some mb) (sizR ws p) ∧ FR W B lv fs ∧ (∀ k, (k = Xb ∨ k = mb) → v6.ownBlock ≠ some k ∧ lv.ownBlock ≠ some k) ∧ (∀ k, v6.ownBlock = some k → lv.ownBlock ≠ some k) ∧ Below B w W := by
  rintro W rfl
  obtain ⟨l1, l2, l3, l4, l5⟩ := h.lts
  have hsz : w.heap.size ≤ (w.alloc o).heap.size := (Gw.alloc w o).size
  have K1 := Kept.grown hg
  have K2 := Kept.set w6 Xb 1 v6
  have hA := h.below (Gw.alloc w o)
  have a1 := h.ap Xb (.inl rfl)
  have a2 := h.ap mb (.inr rfl)
  have m6 : ∀ k, v6.ownBlock = some k → rv.ownBlock = some k ∨ w.heap.size ≤ k := fun k hk => by
    rcases hv with e | e
    · exact .inl (e ▸ hk)
    · rw [e] at hk
      injection hk with hk
      exact .inr (by omega)
  have n6 : ∀ k, (k = Xb ∨ k = mb) → v6.ownBlock ≠ some k := fun k hk e => by
    rcases m6 k e with h' | h'
    · exact (h.ap k hk).1 h'
    · rcases hk with hk | hk <;> omega
  have q6 : ∀ k, v6.ownBlock = some k → lv.ownBlock ≠ some k := fun k hk e => by
    rcases m6 k hk with h' | h'
    · exact h.ap2 k h' e
    · have := (l4 k e).2; omega
  refine ⟨(hA.blk.grownK hg (fun e => a1.1 e.symm)).set 1 v6, K2.ow ho (fun k hk e => n6 Xb (.inl rfl) (e ▸ hk)), (hA.mp.kept K1 (fun b hb e => by injection hb with hb; exact a2.1 (hb ▸ e))).kept K2 (fun b hb e => by injection hb with hb; exact h.ne (e.symm.trans hb.symm)), (hA.fr.kept K1 (fun k hk e => h.ap2 k e hk)).kept K2 (fun k hk e => a1.2 (e ▸ hk)), fun k hk => ⟨n6 k hk, (h.ap k hk).2⟩, q6, ?_⟩
  exact (((Gw.alloc w o).mono l5).trans (K1.below (by omega) (fun k hk => (l3 k hk).1))).trans (K2.below (by have := K1.size; omega) (fun k hk => by rw [hk]; exact h.BX.1))
theorem sizR_snoc (ws : List (BitVec 64)) (p : List Nat) (a : Nat) (h : ∀ y ∈ p, y < a) : putI (sizR ws p) (a : Int) (szX (ws.getD a 0#64) : Int) = sizR ws (p ++ [a]) := by
  rw [put_end]
  · unfold sizR; rw [List.map_append]; rfl
  · intro q hq
    obtain ⟨y, hy, rfl⟩ := List.mem_map.1 hq
    have := h y hy
    show (y : Int) < (a : Int)
    omega
end
end Go.Proofs.Ytaminpfgkegibaa
/- check.look; check.Space. Conditions: lengths. -/
namespace Go.Proofs.Ytaminpfgkegibaa
set_option linter.unusedVariables false
set_option linter.unusedSimpArgs false
open Go.RowKit Go.Maps
set_option maxHeartbeats 4000000
set_option maxRecDepth 100000
theorem found_good (ws : List (BitVec 64)) (t : Nat) : ∀ (n a : Nat), ∀ y ∈ (foundN ws t n a).1, a ≤ y ∧ y < t ∧ goodX (ws.getD y 0#64) (t - y) = true
  | 0, a, y, h => by cases h
  | n + 1, a, y, h => by
    unfold foundN at h
    by_cases h1 : a < t
    · rw [if_pos h1] at h
      by_cases h2 : goodX (ws.getD a 0#64) (t - a) = true
      · rw [if_pos h2] at h
        rcases List.mem_cons.1 h with rfl | h
        · exact ⟨Nat.le_refl _, h1, h2⟩
        · have := found_good ws t n _ y h
          exact ⟨by omega, this.2⟩
      · rw [if_neg h2] at h; cases h
    · rw [if_neg h1] at h; cases h
theorem found_len (ws : List (BitVec 64)) (t : Nat) : ∀ (n a : Nat), (foundN ws t n a).1.length ≤ t - a
  | 0, a => Nat.zero_le _
  | n + 1, a => by
    unfold foundN
    by_cases h1 : a < t
    · rw [if_pos h1]
      by_cases h2 : goodX (ws.getD a 0#64) (t - a) = true
      · rw [if_pos h2]
        have h3 := found_len ws t n (a + szX (ws.getD a 0#64))
        obtain ⟨_, _, _, hs, _, _⟩ := head_of h2
        show (foundN ws t n _).1.length + 1 ≤ _
        omega
      · rw [if_neg h2]; exact Nat.zero_le _
    · rw [if_neg h1]; exact Nat.zero_le _
theorem rdN_new (w : World) (a : Nat) : Rd iN (w.alloc (.cells #[.int .i64 (a : Int)] 3)) (w.heap.size + 1) (some ⟨w.heap.size, 0, none⟩) [a] := rd1_new rfl
section
variable {B Bs Xb s g mb : Nat} {v rv lv : Value} {ws : List (BitVec 64)} {b t e : Nat} {p : List Nat} {fs : List (Nat × ByteArray)}
def LookP (w : World) (s : Nat) (ws : List (BitVec 64)) (p : List Nat) (bd : Option Nat) (r : Ending) (w' : World) : Prop :=
  ∃ (Xb mb : Nat) (rv lv : Value), r = .returned (.pointer (some ⟨Xb, 0, none⟩)) ∧ LkAt w' w.heap.size Xb s mb rv lv ws p (badF bd) ∧ Below w.heap.size w w'
theorem look_c (w : World) (sp : SpAt w Bs s g v ws b t e) (hw : ws.length ≤ 8192) (F : List Nat × Option Nat) (hF : foundN ws t (t + 1) b = F) (hq : ∀ x, F.2 = some x → okU (ws.getD x 0#64) = false) :
    Calls Try.prog 22 #[.pointer (some ⟨s, 0, none⟩)] w (LookP w s ws F.1 F.2) := by
  have hbt := sp.bt
  have htl : t ≤ ws.length := Nat.le_trans sp.te sp.el
  have HSp := Lib.hid (And.intro sp (And.intro hbt (And.intro htl hw)))
  obtain ⟨d0, d1, d2, d3⟩ := sp.four
  have hsl := sp.blk.lt
  have HF := Lib.hid (And.intro hF hq)
  have tI : (t : Int) ≤ 8192 := by omega
  have bI : (b : Int) ≤ 8192 := by omega
  have hmm := @run_makeMap Try.prog
  clear sp hF hq hbt htl hw
  go_enter Try.func22, Try.ntmps22
  go_wp2_with fail
  have hm1 : MapIs (w.alloc (.map #[] 0)) (some w.heap.size) (sizR ws []) := tighten (l := []) (World.ownsMap_made w Try.prog 3 (plainElem Try.prog 3))
  have e1 : (w.alloc (.map #[] 0)).heap.size = w.heap.size + 1 := by unfold World.alloc; simp
  have hbk0 := Bk.new (w.alloc (.map #[] 0)) 72 #[.pointer (some ⟨s, 0, none⟩), .slice none 0 0, .map (some w.heap.size), .slice none 0 0]
  rw [e1] at hbk0
  have b12 := Gw.alloc (w.alloc (.map #[] 0)) (.cells #[.pointer (some ⟨s, 0, none⟩), .slice none 0 0, .map (some w.heap.size), .slice none 0 0] 72)
  have hm2 := hm1.kept (Kept.of_below b12 (fun _ => False)) (fun _ _ f => f)
  have hb02 : Below w.heap.size w ((w.alloc (.map #[] 0)).alloc (.cells #[.pointer (some ⟨s, 0, none⟩), .slice none 0 0, .map (some w.heap.size), .slice none 0 0] 72)) := (Gw.alloc w _).trans (b12.mono (by omega))
  obtain ⟨w2, hw2⟩ : ∃ w2, w2 = (w.alloc (.map #[] 0)).alloc (.cells #[.pointer (some ⟨s, 0, none⟩), .slice none 0 0, .map (some w.heap.size), .slice none 0 0] 72) := ⟨_, rfl⟩
  rw [← hw2] at hbk0 hm2 hb02 ⊢
  obtain ⟨Xb, hXb⟩ : ∃ m, m = w.heap.size + 1 := ⟨_, rfl⟩
  obtain ⟨mb, hmb⟩ : ∃ m, m = w.heap.size := ⟨_, rfl⟩
  rw [← hXb] at hbk0 ⊢
  rw [← hmb] at hbk0 hm2
  have hlk : LkAt w2 w.heap.size Xb s mb (.slice none 0 0) (.slice none 0 0) ws [] [] := ⟨hbk0, Ow.nil_ _ _ _ _, hm2, FR.nil _ _, by omega, fun k _ => ⟨fun h => (by cases h), fun h => (by cases h)⟩, fun k h => (by cases h), ⟨by omega, by omega⟩⟩
  have HS0 : Hid (∃ rv pd n, LkAt w2 w.heap.size Xb s mb rv (.slice none 0 0) ws pd [] ∧ (∀ y ∈ pd, y < b) ∧ pd ++ (foundN ws t n b).1 = F.1 ∧ (foundN ws t n b).2 = F.2 ∧ t + 1 ≤ b + n ∧ Below w.heap.size w w2) := Lib.hid ⟨_, [], t + 1, hlk, fun _ h => (by cases h), by rw [HF.out.1]; rfl, by rw [HF.out.1], by omega, hb02⟩
  have HXl := Lib.hid hlk.blk.lt
  clear hlk hbk0 hm1 hm2 b12 hb02 hw2 hXb hmb e1 hmm d0 d1 d2 d3 hsl
  go_loopw [4] (fun x W => ∃ a : Nat, x = .int .i64 a ∧ b ≤ a ∧ a ≤ t ∧ Hid (∃ rv pd n, LkAt W w.heap.size Xb s mb rv (.slice none 0 0) ws pd [] ∧ (∀ y ∈ pd, y < a) ∧ pd ++ (foundN ws t n a).1 = F.1 ∧ (foundN ws t n a).2 = F.2 ∧ t + 1 ≤ a + n ∧ Below w.heap.size w W)) (fun x _ => t - (Go.RowKit.intOf x).toNat)
  case atStart => exact ⟨b, rfl, Nat.le_refl _, HSp.out.2.1, HS0⟩
  case round =>
    obtain ⟨a, rfl, hba, hat, hS⟩ := hrel
    clear HS0
    obtain ⟨rv, pd, n, e1, e2, e3, e4, e5, e6⟩ := hS.out
    have sp := HSp.out.1.below e6
    obtain ⟨d0, d1, d2, d3⟩ := sp.four
    have hsl := sp.blk.lt
    have p0 : (0 : Int) ≤ (a : Int) := by omega
    by_cases hlt : a < t
    · have p1 : (a : Int) < (t : Int) := by omega
      obtain ⟨x, hx⟩ : ∃ x, x = ws.getD a 0#64 := ⟨_, rfl⟩
      obtain ⟨m, rfl⟩ : ∃ m, n = m + 1 := ⟨n - 1, by omega⟩
      have hal : a < ws.length := by have := HSp.out.2.2.1; omega
      have hHd := sphead_in wr Bs s g v ws b t e sp a hba hlt (by have := HSp.out.2.2.2; omega) hal
      have hxe : ws[a] = x := by rw [hx, List.getD_eq_getElem?_getD, List.getElem?_eq_getElem hal]; rfl
      rw [hxe] at hHd
      unfold foundN at e3 e4
      rw [if_pos hlt, ← hx] at e3 e4
      by_cases hg : goodX x (t - a) = true
      · rw [if_pos hg] at e3 e4
        obtain ⟨hv, hP64, hB1024, hsx, hsz, hroom⟩ := head_of hg
        rw [hv] at hHd
        have HHd := Lib.hid hHd
        obtain ⟨P, hP⟩ : ∃ P, P = P0 x := ⟨_, rfl⟩
        obtain ⟨nb, hn⟩ : ∃ P, P = B0 x := ⟨_, rfl⟩
        obtain ⟨sz, hszz⟩ : ∃ P, P = szX x := ⟨_, rfl⟩
        rw [← hP, ← hn] at HHd hsz
        rw [← hszz] at hsz hroom e3 e4
        have hs1 : 1 ≤ sz := by rw [hszz, hsx]; omega
        have HSz := Lib.hid (fun W => size_c (P : Int) (nb : Int) false 0 W)
        rw [hsz] at HSz
        obtain ⟨rA, rc, e0, _⟩ := e1.row.form
        obtain ⟨np, hnp⟩ : ∃ np, np = pd.length := ⟨_, rfl⟩
        rw [← hnp] at e0
        subst e0
        have hpl : pd.length ≤ 8192 := by
          have h1 := congrArg List.length e3
          have h2 := found_len ws t (t + 1) b
          rw [HF.out.1, ← h1] at h2
          have := HSp.out.2.2.2
          have := HSp.out.2.2.1
          simp at h2
          omega
        have HE := Lib.hid (And.intro e1 (And.intro e2 (And.intro e3 (And.intro e4 (And.intro e5 (And.intro e6 (And.intro hx (And.intro hszz hpl))))))))
        have z1 : (sz : Int) ≤ (t : Int) - (a : Int) := by omega
        have z2 : (1 : Int) ≤ (sz : Int) := by omega
        clear hHd e1 e2 e3 e4 e5 e6 hS hx hxe hg sp hv hsx hsz hP hn hszz hnp hpl hroom
        go_wp2_with fail
        refine Calls.mono HHd.out ?_
        rintro r w3 ⟨rfl, b3⟩
        have H3 := Lib.hid b3
        clear b3 d0 d1 d2 d3
        go_wp2_with fail
        obtain ⟨Hb, hHb⟩ : ∃ H, H = w3.heap.size := ⟨_, rfl⟩
        obtain ⟨w4, hw4⟩ : ∃ w3', w3' = w3.alloc (.cells #[.int .i64 (P : Int), .int .i64 (nb : Int), .bool false, .int .i64 0] 111) := ⟨_, rfl⟩
        have hbk : Bk w4 Hb 111 #[.int .i64 (P : Int), .int .i64 (nb : Int), .bool false, .int .i64 0] := by rw [hw4, hHb]; exact Bk.new w3 _ _
        have b34 : Below w3.heap.size w3 w4 := by rw [hw4]; exact Gw.alloc w3 _
        rw [← hw4, ← hHb]
        have b4 := H3.out.trans (b34.mono H3.out.size)
        have h4 := HE.out.1.below b4
        have sp4 := HSp.out.1.below (HE.out.2.2.2.2.2.1.trans (b4.mono HE.out.2.2.2.2.2.1.size))
        have d2 := sp4.four.2.2.1
        have hs4 := sp4.blk.lt
        obtain ⟨g0, g1, g2, g3⟩ := hbk.four
        have hHl := hbk.lt
        have HBk := Lib.hid (And.intro hbk (And.intro (show Hb ≠ Xb ∧ Hb ≠ mb ∧ (∀ k, (Value.slice rA np rc).ownBlock = some k → k ≠ Hb) from by
          have l := (HE.out.1.below H3.out).lts
          exact ⟨by omega, by omega, fun k hk e => by have := (l.2.2.1 k hk).2; omega⟩) b4))
        clear hw4 hHb b34 hbk h4 sp4 b4
        refine lo5c _ _ _ Hb s a t (P : Int) (nb : Int) (sz : Int) false hHl hs4 g0 g1 g2 g3 d2 p1 tI p0 (decide_eq_false (by omega)) HSz rfl ?_ ?_ ?_ ?_ ?_
        · rfl
        · rfl
        · rfl
        · rfl
        intro vals w5 hG h43
        unfold IsV at h43
        simp only [putD, Act.put, List.setIfInBounds_toArray, List.set_cons_zero, List.set_cons_succ, h43]
        have hb5 := HBk.out.2.2.trans (hG.mono HBk.out.2.2.size)
        have h5 := HE.out.1.below hb5
        have H5 := Lib.hid (And.intro h5 (And.intro hb5 (HBk.out.1.below hG HBk.out.1.lt)))
        obtain ⟨c0, c1, c2, c3⟩ := h5.four
        have hXl := h5.blk.lt
        have HO := Lib.hid h5.row
        have HLn := Lib.hid (show pd.length + [a].length ≤ 4294967296 by have := HE.out.2.2.2.2.2.2.2.2; simp; omega)
        have HBs := Lib.hid h5.lts.2.2.2.2
        clear hG h43 hb5 h5 g0 g1 g2 g3 d2 hs4 hHl
        go_wp2_with (at_builtin; refine wp_app oneI iN_one rfl (.tmp 51) (.tmp 53) rfl w.heap.size _ pd rfl (HO.out.alloc _) (some ⟨w5.heap.size, 0, none⟩) 1 1 [a] rfl rfl (w5.heap.size + 1) (rdN_new w5 a) HLn.out (by decide) (Nat.le_trans HBs.out (Gw.alloc w5 _).size) ?_; intro v6 w6 ho6 hb6 hg6 hv6; obtain ⟨A6, c6, e6, _⟩ := ho6.form; obtain ⟨n6, hn6⟩ : ∃ n, n = (pd ++ [a]).length := ⟨_, rfl⟩; rw [← hn6] at e6; subst e6; clear hn6; have hk6 := (H5.out.1.blk.alloc (.cells #[.int .i64 (a : Int)] 3)).grownK hg6 (fun e => (H5.out.1.ap Xb (.inl rfl)).1 e.symm); have HK := Lib.hid (And.intro ho6 (And.intro (show World.grownBy (w5.alloc (.cells #[.int .i64 (a : Int)] 3)) w6 (Value.slice rA np rc).ownBlock from hg6) (show (Value.slice A6 n6 c6).ownBlock = (Value.slice rA np rc).ownBlock ∨ (Value.slice A6 n6 c6).ownBlock = some (w5.alloc (.cells #[.int .i64 (a : Int)] 3)).heap.size from hv6))); have j1 := hk6.cell 1; have jf := hk6.free 1; have jX := hk6.lt; clear ho6 hb6 hg6 hv6 hk6 c0 c1 c2 c3)
        have hpl := H5.out.1.place HK.out.1 HK.out.2.1 HK.out.2.2 _ rfl
        obtain ⟨q1, q2, q3, q4, q5, q6, q7⟩ := hpl
        have hK6 := (Kept.alloc (fun k => k = Xb ∨ (Value.slice rA np rc).ownBlock = some k) w5 (.cells #[.int .i64 (a : Int)] 3)).trans (((Kept.grown HK.out.2.1).more (S' := fun k => k = Xb ∨ (Value.slice rA np rc).ownBlock = some k) (fun k hk => .inr hk)).trans ((Kept.set w6 Xb 1 (.slice A6 n6 c6)).more (S' := fun k => k = Xb ∨ (Value.slice rA np rc).ownBlock = some k) (fun k hk => .inl hk)))
        obtain ⟨w7, hw7⟩ : ∃ w7, w7 = w6.setCell ⟨Xb, 1, none⟩ (.slice A6 n6 c6) := ⟨_, rfl⟩
        rw [← hw7] at q1 q2 q3 q4 q7 hK6 ⊢
        have hbk7 := hK6.bk H5.out.2.2 (fun h => h.elim (fun h => HBk.out.2.1.1 h) (fun h => HBk.out.2.1.2.2 _ h rfl))
        have H7 := Lib.hid (And.intro q1 (And.intro q2 (And.intro q3 (And.intro q4 (And.intro q5 (And.intro q6 (And.intro q7 hbk7)))))))
        have x2 := q1.cell 2
        have x2l := q1.lt
        obtain ⟨g0, g1, g2, g3⟩ := hbk7.four
        have hHl := hbk7.lt
        clear hw7 q1 q2 q3 q4 q5 q6 q7 hK6 hbk7 j1 jf jX hXl
        refine lo8 _ _ _ Hb Xb mb a (P : Int) (nb : Int) (sz : Int) hHl x2l g0 g1 g2 g3 x2 HSz rfl ?_ ?_ ?_ ?_
        · rfl
        · rfl
        · rfl
        intro vals8 w8 hG8 h60 h61 h63
        unfold IsV at h60 h61 h63
        simp only [putD, Act.put, List.setIfInBounds_toArray, List.set_cons_zero, List.set_cons_succ, h60, h61, h63]
        have H8 := Lib.hid hG8
        have HM8 := Lib.hid (H7.out.2.2.1.kept (Kept.of_below hG8 (fun _ => False)) (fun _ _ f => f))
        have HWF := Lib.hid (show (Lit.int .i64 (a : Int)).wf = true ∧ (Lit.int .i64 (sz : Int)).wf = true ∧ (sizR ws pd).length ≤ 1000000 from ⟨by simp [Lit.wf, IntKind.min, IntKind.max, IntKind.signed, IntKind.bits]; omega, by simp [Lit.wf, IntKind.min, IntKind.max, IntKind.signed, IntKind.bits]; omega, by have := HE.out.2.2.2.2.2.2.2.2; unfold sizR; simp; omega⟩)
        clear hG8 h60 h61 h63 g0 g1 g2 g3 hHl x2 x2l
        go_wp2_with (refine wp_put_is (b := mb) (l := sizR ws pd) rfl (.tmp 60) (.tmp 61) (.tmp 63) rfl rfl HM8.out (a : Int) (sz : Int) rfl rfl HWF.out.1 HWF.out.2.1 HWF.out.2.2 ?_; intro w9 hm9 hk9; have hb9 := hk9.bk (H7.out.2.2.2.2.2.2.2.below H8.out H7.out.2.2.2.2.2.2.2.lt) (fun h => by injection h with h; exact HBk.out.2.1.2.1 h.symm); obtain ⟨g0, g1, g2, g3⟩ := hb9.four; have hHl := hb9.lt; have H9 := Lib.hid (And.intro hm9 hk9); clear hm9 hk9 hb9)
        refine Calls.mono (HSz.out w9) ?_
        rintro r w10 ⟨rfl, b10⟩
        have HN : Hid (∃ rv pd n, LkAt w10 w.heap.size Xb s mb rv (.slice none 0 0) ws pd [] ∧ (∀ y ∈ pd, y < a + sz) ∧ pd ++ (foundN ws t n (a + sz)).1 = F.1 ∧ (foundN ws t n (a + sz)).2 = F.2 ∧ t + 1 ≤ a + sz + n ∧ Below w.heap.size w w10) := by
          obtain ⟨q1, q2, q3, q4, q5, q6, q7, q8⟩ := H7.out
          obtain ⟨e1, e2, e3, e4, e5, e6, hx, hszz, hpl⟩ := HE.out
          obtain ⟨hm9, hk9⟩ := H9.out
          have hnX : ¬ (some mb = some Xb) := fun h => by injection h with h; exact e1.ne h.symm
          have hm9' : MapIs w9 (some mb) (sizR ws (pd ++ [a])) := by
            rw [← sizR_snoc ws pd a e2, ← hx, ← hszz]
            exact hm9
          have b8 := H8.out
          have hB8 : w.heap.size ≤ w8.heap.size := by have := e6.size; have := H5.out.2.1.size; have := q7.size; have := b8.size; omega
          have hL : LkAt w9 w.heap.size Xb s mb (.slice A6 n6 c6) (.slice none 0 0) ws (pd ++ [a]) [] := ⟨hk9.bk (q1.below b8 q1.lt) hnX, hk9.ow (q2.below b8) (fun k hk e => by injection e with e; exact (q5 mb (.inr rfl)).1 (e ▸ hk)), hm9', FR.nil _ _, e1.ne, q5, q6, e1.BX⟩
          refine Lib.hid ⟨_, pd ++ [a], m, hL.below b10, fun y hy => ?_, by rw [List.append_assoc]; exact e3, e4, by omega, ?_⟩
          · rcases List.mem_append.1 hy with h | h
            · have := e2 y h; omega
            · rw [List.mem_singleton.1 h]; omega
          · have h7 : Below w.heap.size w w7 := (e6.trans (H5.out.2.1.mono e6.size)).trans q7
            have h8 := h7.trans (b8.mono h7.size)
            have h9 := h8.trans (hk9.below h8.size (fun k hk => by injection hk with hk; rw [← hk]; exact e1.BX.2))
            exact h9.trans (b10.mono h9.size)
        have zt : a + sz ≤ t := by omega
        have zb : b ≤ a + sz := by omega
        obtain ⟨nx, hnx⟩ : ∃ nx, nx = a + sz := ⟨_, rfl⟩
        rw [← hnx] at HN zt zb
        have z4 : (a : Int) + (sz : Int) = (nx : Int) := by omega
        have z5 : (nx : Int) ≤ 8192 := by omega
        have z6 : a < nx := by omega
        clear b10 g0 g1 g2 g3 hHl hnx
        go_wp2_with fail
        go_roundw
        case rel => first | exact ⟨nx, by go_num, zb, zt, HN⟩ | ((repeat apply Exists.intro); refine ⟨?_, rfl⟩; exact ⟨nx, by go_num, zb, zt, HN⟩)
        case measure => simp [Go.RowKit.intOf]; omega
      · rw [if_neg hg] at e3 e4
        have hok : okU x = false := by rw [hx]; exact HF.out.2 a e4.symm
        rw [unV_no hok] at hHd
        have HHd := Lib.hid hHd
        have HE := Lib.hid (And.intro e1 (And.intro (show pd = F.1 from by rw [← e3]; exact (List.append_nil _).symm) (And.intro (show F.2 = some a from e4.symm) e6)))
        clear hHd e1 e2 e3 e4 e5 e6 hS hx hxe hok hg sp
        go_wp2_with fail
        refine Calls.mono HHd.out ?_
        rintro r w3 ⟨rfl, b3⟩
        have H3 := Lib.hid b3
        clear b3 d0 d1 d2 d3
        go_wp2_with fail
        obtain ⟨Hb, hHb⟩ : ∃ H, H = w3.heap.size := ⟨_, rfl⟩
        obtain ⟨w4, hw4⟩ : ∃ w3', w3' = w3.alloc (.cells #[.int .i64 0, .int .i64 0, .bool false, .int .i64 0] 111) := ⟨_, rfl⟩
        have b34 : Below w3.heap.size w3 w4 := by rw [hw4]; exact Gw.alloc w3 _
        rw [← hw4, ← hHb]
        have H4 := Lib.hid (H3.out.trans (b34.mono H3.out.size))
        clear hw4 hHb b34
        refine lo5a _ _ _ Hb 2 (by decide) ?_ ?_ ?_
        · rfl
        · rfl
        intro vals w5 hG h43
        unfold IsV at h43
        simp only [putD, Act.put, List.setIfInBounds_toArray, List.set_cons_zero, List.set_cons_succ, h43]
        have hb5 := H4.out.trans (hG.mono H4.out.size)
        have HT := Lib.hid (tell_c w5 (HE.out.1.below hb5) (Nat.zero_le _) a headS)
        have H5 := Lib.hid hb5
        unfold headS at HT
        clear hG h43 hb5
        go_wp2_with fail
        refine Calls.mono HT.out ?_
        rintro r w6 ⟨rfl, lv', h6, k6, n6⟩
        have H6 := Lib.hid (And.intro h6 k6)
        clear h6 k6 n6
        go_wp2_with fail
        go_ret
        obtain ⟨e1, hp, hb, e6⟩ := HE.out
        refine ⟨Xb, mb, rv, lv', rfl, ?_, ?_⟩
        · rw [← hp, hb]
          exact H6.out.1
        · have h5 := e6.trans (H5.out.mono e6.size)
          exact h5.trans (H6.out.2.below h5.size (fun k hk => hk.elim (fun h => by rw [h]; exact e1.BX.1) (fun h => by cases h)))
    · have p1 : ¬ (a : Int) < (t : Int) := by omega
      have hF2 : foundN ws t n a = ([], none) := by
        cases n with
        | zero => rfl
        | succ m => unfold foundN; rw [if_neg hlt]
      rw [hF2] at e3 e4
      have HE := Lib.hid (And.intro e1 (And.intro (show pd = F.1 from by rw [← e3]; exact (List.append_nil _).symm) (And.intro (show F.2 = none from e4.symm) e6)))
      clear e1 e2 e3 e4 e5 e6 hS hF2 sp
      go_wp2_with fail
      go_ret
      obtain ⟨e1, hp, hb, e6⟩ := HE.out
      refine ⟨Xb, mb, rv, .slice none 0 0, rfl, ?_, e6⟩
      rw [← hp, hb]
      exact e1
theorem ckspace_c (w : World) (sp : SpAt w Bs s g v ws b t e) (hw : ws.length ≤ 8192) (F : List Nat × Option Nat) (hF : foundN ws t (t + 1) b = F) (hq : ∀ x, F.2 = some x → okU (ws.getD x 0#64) = false) (hl : (badF F.2 ++ allE ws F.1 F.1).length ≤ 5000) :
    Calls Try.prog 14 #[.pointer (some ⟨s, 0, none⟩)] w (fun r w' => ∃ lv, r = .returned lv ∧ FR w' w.heap.size lv (badF F.2 ++ allE ws F.1 F.1) ∧ Below w.heap.size w w') := by
  have HLk := Lib.hid (look_c w sp hw F hF hq)
  have HX := Lib.hid (And.intro sp (And.intro hw (And.intro hF hl)))
  have htl : t ≤ ws.length := Nat.le_trans sp.te sp.el
  have HT := Lib.hid htl
  clear sp hw hF hq hl htl
  go_enter Try.func14, Try.ntmps14
  go_wp2_with fail
  refine Calls.mono HLk.out ?_
  rintro r w1 ⟨Xb, mb, rv, lv, rfl, h1, b1⟩
  have hpg : ∀ a ∈ F.1, b ≤ a ∧ a < t ∧ goodX (ws.getD a 0#64) (t - a) = true := fun a ha => found_good ws t (t + 1) b a (by rw [HX.out.2.2.1]; exact ha)
  have hpl : F.1.length ≤ 8192 := by
    have h2 := found_len ws t (t + 1) b
    rw [HX.out.2.2.1] at h2
    have := HT.out
    have := HX.out.2.1
    omega
  have HO := Lib.hid (lkobj_c w1 (wB := w) (Bs := Bs) (s := s) (g := g) (v := v) (b := b) (t := t) (e := e) ⟨rfl, HX.out.1⟩ b1 h1 HX.out.2.2.2 HX.out.2.1 HT.out hpg hpl)
  clear h1 b1 hpg hpl
  go_wp2_with fail
  refine Calls.mono HO.out ?_
  rintro r w2 ⟨rfl, lv2, h2, _, _, b2⟩
  obtain ⟨c0, c1, c2, c3⟩ := h2.four
  have hXl := h2.blk.lt
  have H2 := Lib.hid (And.intro h2 b2)
  clear h2 b2
  go_wp2_with fail
  go_ret
  exact ⟨lv2, rfl, H2.out.1.fr, H2.out.2⟩
end
end Go.Proofs.Ytaminpfgkegibaa
/- A row of findings (loamref17.Finding) as a list; append; at. Conditions: lengths. -/
namespace Go.Proofs.Ytaminpfgkegibaa
set_option linter.unusedVariables false
set_option linter.unusedSimpArgs false
open Go.RowKit Go.Maps
set_option maxHeartbeats 400000
set_option maxRecDepth 100000
theorem rinfoF : (Try.prog.info? 76).map (fun i => (i.zero, i.size, i.bytes)) = some (some (.agg #[.int .i64 0, .string ⟨#[]⟩]), 2, 24) := by kernel_rfl
/-- A row of pairs of one's own. -/
def rFR (w : World) (base : Nat) (v : Value) (l : List (Nat × ByteArray)) : Prop := w.ownsRow base 76 2 v l.length (flatF l)
/-- A slice's address reads as pairs. -/
def rRdF (w : World) (A : Option Addr) (l : List (Nat × ByteArray)) : Prop := ∀ j u, (flatF l)[j]? = some u → ∃ a, A = some a ∧ w.cell? (a.add j) = some u
section
variable {w w' : World} {base : Nat} {v : Value} {l : List (Nat × ByteArray)} {S : Nat → Prop}
theorem rFR.kept (h : rFR w base v l) (hk : Kept S w w') (hn : ∀ k, v.ownBlock = some k → ¬ S k) : rFR w' base v l := hk.rowF h hn
theorem rFR.below (h : rFR w base v l) (hb : Below w.heap.size w w') : rFR w' base v l := h.kept (Kept.of_below hb (fun _ => False)) (fun _ _ f => f)
theorem rFR.nil (w : World) (base : Nat) : rFR w base (.slice none 0 0) [] := ⟨rfl, .inl ⟨rfl, rfl⟩⟩
theorem rFR.empty (w : World) (base q : Nat) (hq : base ≤ q) (hb : Bk w q 76 #[]) : rFR w base (.slice (some ⟨q, 0, none⟩) 0 0) [] := ⟨rfl, .inr ⟨q, 0, #[], rfl, hq, hb, Nat.le_refl _, by simp [maxLen], rfl, rfl⟩⟩
theorem rFR.form (h : rFR w base v l) : (v = .slice none 0 0 ∧ l = []) ∨ ∃ q c, v = .slice (some ⟨q, 0, none⟩) l.length c ∧ l.length ≤ c ∧ c ≤ maxLen ∧ base ≤ q ∧ q < w.heap.size := by
  rcases h.2 with ⟨e, hn⟩ | ⟨q, cap, cur, e, hB, hh, hc, hm, _⟩
  · exact .inl ⟨e, List.eq_nil_of_length_eq_zero hn⟩
  · exact .inr ⟨q, cap, e, hc, hm, hB, (Array.getElem?_eq_some_iff.1 hh).1⟩
theorem rFR.slice_ (h : rFR w base v l) : ∃ A c, v = .slice A l.length c ∧ l.length ≤ c ∧ c ≤ maxLen := by
  rcases h.form with ⟨rfl, rfl⟩ | ⟨q, c, rfl, h1, h2, _⟩
  · exact ⟨none, 0, rfl, Nat.le_refl _, by simp [maxLen]⟩
  · exact ⟨_, c, rfl, h1, h2⟩
theorem rFR.lt (h : rFR w base v l) : ∀ k, v.ownBlock = some k → base ≤ k ∧ k < w.heap.size := fun k hk => World.ownsRow.lt h k hk
theorem rFR.rdf {A : Option Addr} {n c : Nat} (h : rFR w base (.slice A n c) l) : rRdF w A l := by
  intro j u hu
  rcases h.form with ⟨e, rfl⟩ | ⟨q, c', e, _⟩
  · cases hu
  · injection e with e1 e2 e3
    subst e1
    exact ⟨_, rfl, World.ownsRow.cells h rfl j u hu⟩
theorem rRdF.pre {A : Option Addr} (h : rRdF w A l) (k : Nat) : rRdF w A (l.take k) := by
  intro j u hu
  refine h j u ?_
  have e : flatF l = flatF (l.take k) ++ flatF (l.drop k) := by rw [← flatF_app, List.take_append_drop]
  rw [e, List.getElem?_append_left (List.getElem?_eq_some_iff.1 hu).1]
  exact hu
theorem rRdF.suf {b o : Nat} (h : rRdF w (some ⟨b, o, none⟩) l) (k : Nat) : rRdF w (some ⟨b, o + 2 * k, none⟩) (l.drop k) := by
  intro j u hu
  rw [← flatF_drop, List.getElem?_drop] at hu
  obtain ⟨a, e, hc⟩ := h _ _ hu
  injection e with e
  subst e
  refine ⟨_, rfl, ?_⟩
  rw [← hc, add_off, add_off, Nat.add_assoc]
/-- The cells of element j. -/
theorem rFR.at_ {A : Option Addr} {n c : Nat} (h : rFR w base (.slice A n c) l) (j : Nat) (hj : j < l.length) : ∃ q, A = some ⟨q, 0, none⟩ ∧ base ≤ q ∧ q < w.heap.size ∧ w.cell? ⟨q, j * 2, none⟩ = some (.int .i64 (l[j].1 : Int)) ∧ w.cell? ⟨q, j * 2 + 1, none⟩ = some (.string l[j].2) := by
  rcases h.form with ⟨e, rfl⟩ | ⟨q, c', e, _, _, h1, h2⟩
  · exact absurd hj (by simp)
  · injection e with e1 e2 e3
    subst e1
    obtain ⟨f1, f2⟩ := flatF_at l j hj
    have c1 := World.ownsRow.cells h rfl _ _ f1
    have c2 := World.ownsRow.cells h rfl _ _ f2
    refine ⟨q, rfl, h1, h2, ?_, ?_⟩
    · rw [add_off] at c1; rw [← c1]; congr 2; omega
    · rw [add_off] at c2; rw [← c2]; congr 2; omega
variable {ops : Array Oper} {rest : List Oper} {o : Oper} {a : Act} {Q : Exit → Act → World → Prop}
/-- append of pairs to a row of one's own. -/
theorem rwp_appF (hgd : o.guard = none) (s x : Operand)
    (ho : o.op = .call { callee := .builtin .append, args := #[s, x], argTypes := #[34, 34] })
    (hs : a.eval s = v) (hown : rFR w base v l)
    (A : Option Addr) (m c : Nat) (ys : List (Nat × ByteArray)) (hx : a.eval x = .slice A m c) (hm : m = ys.length) (hr : rRdF w A ys)
    (h63 : l.length + ys.length ≤ 100000) (hbase : base ≤ w.heap.size)
    (h : ∀ v' w', rFR w' base v' (l ++ ys) → Below base w w' → w.grownBy w' v.ownBlock → (v'.ownBlock = v.ownBlock ∨ v'.ownBlock = some w.heap.size) → wpList Try.prog ops Q rest (a.put o.dst v') w') : wpList Try.prog ops Q (o :: rest) a w := by
  subst hm
  obtain ⟨i, hi, hz, hsize, hbytes⟩ := info_parts rinfoF
  have hu := Try.underlying34
  have hbel : ∀ (v' : Value) (w' : World), w.grownBy w' v.ownBlock → Below base w w' := fun v' w' hg => (Below.refl _ _).grown hg hbase (fun k hk => (World.ownsRow.lt hown k hk).1)
  refine wpList_plain hgd fun K hK => ?_
  rcases A with _ | ad
  · have h0 : ys = [] := by
      cases ys with
      | nil => rfl
      | cons p ys =>
        obtain ⟨a, e, _⟩ := hr 0 (.int .i64 (p.1 : Int)) rfl
        cases e
    subst h0
    have hrun : (Builtin.append_ #[34, 34] o.type #[v, .slice none 0 c]).run Try.prog w = .ok v w := by
      rcases hown.2 with ⟨rfl, hn⟩ | ⟨g, cap, cur, rfl, _, _, hnc, _⟩
      · simp [Builtin.append_, run_underlying hu, sizeOf, typeInfo, hi, Builtin.lenOf, Builtin.firstCells]
      · simp [Builtin.append_, run_underlying hu, sizeOf, typeInfo, hi, Builtin.lenOf, Builtin.firstCells, hnc, storeCells]
    unfold Oper.wp execOp
    simp only [ho, resolve, invoke, builtin, Sem.run_bind, Sem.run_pure, Result.andThen_ok, List.map_toArray, List.map_cons, List.map_nil, hs, hx, List.length_nil, hrun]
    exact hK _ _ (h v w (by simpa using hown) (Below.refl _ _) (World.grownBy.refl w _) (.inl rfl))
  · obtain ⟨v', w', hrun, h2, h3, _, h5⟩ := run_append_own_at (P := Try.prog) w base 34 o.type 76 i _ 2 24 hu hi hz hsize hbytes rfl (by decide) v l.length (flatF l) hown ad ys.length c (flatF ys) (flatF_len ys)
      (fun j u hj => by
        obtain ⟨a, e, hc⟩ := hr j u hj
        injection e with e
        subst e
        exact hc) (flatF_one ys) (by unfold maxLen; omega) (by omega) hbase
    unfold Oper.wp execOp
    simp only [ho, resolve, invoke, builtin, Sem.run_bind, Sem.run_pure, Result.andThen_ok, List.map_toArray, List.map_cons, List.map_nil, hs, hx, hrun]
    refine hK _ _ (h v' w' ?_ (hbel v' w' h3) h3 h5)
    unfold rFR
    rw [List.length_append, flatF_app]
    exact h2
theorem rrdF_bk {w : World} {k : Nat} (a : Nat) (s : ByteArray) (hb : Bk w k 76 #[.int .i64 (a : Int), .string s]) : rRdF w (some ⟨k, 0, none⟩) [(a, s)] := by
  intro j u hu
  refine ⟨_, rfl, ?_⟩
  have hj : j < 2 := (List.getElem?_eq_some_iff.1 hu).1
  rw [add_off, Nat.zero_add]
  rcases (show j = 0 ∨ j = 1 by omega) with rfl | rfl
  · have : u = .int .i64 (a : Int) := by injection hu with hu; exact hu.symm
    rw [this]; exact hb.cell 0
  · have : u = .string s := by injection hu with hu; exact hu.symm
    rw [this]; exact hb.cell 1
theorem rrdF_new (w : World) (a : Nat) (s : ByteArray) : rRdF (w.alloc (.cells #[.int .i64 (a : Int), .string s] 76)) (some ⟨w.heap.size, 0, none⟩) [(a, s)] := rrdF_bk a s (Bk.new w _ _)
end
end Go.Proofs.Ytaminpfgkegibaa
/- A region whose operations are loads and reckonings, which float, and a row of others (calls, appends, stores) that wait for each other: the floating ones have known values, the row is straight code. No conditions. -/
namespace Go.Proofs.Ytaminpfgkegibaa
set_option linter.unusedVariables false
set_option linter.unusedSimpArgs false
open Go.RowKit
section
variable {P : Program} {ops : Array Oper} {Q : Exit → Act → World → Prop} {a0 : Act} {w0 : World}
/-- Operations one behind the other; W holds of each world between. -/
def SpineW (P : Program) (ops : Array Oper) (Q : Exit → Act → World → Prop) (W : World → Prop) : List Nat → Act → World → Prop
  | [], a, w => Q .normal a w
  | i :: is, a, w => ∃ o, ops[i]? = some o ∧ o.guard = none ∧ Oper.wp P o a w (fun a' w' => a'.defers = a.defers ∧ W w' ∧ SpineW P ops Q W is a' w') NoQ
def operandsOf (ops : Array Oper) (i : Nat) : List Tmp := match ops[i]? with
  | none => []
  | some o => o.op.operands.toList.filterMap fun | .tmp t => some t | _ => none
def chainB (ops : Array Oper) : List Nat → Bool
  | x :: y :: l => waitsB ops y x && chainB ops (y :: l)
  | _ => true
def slotsB (ops : Array Oper) (fl : List Nat) (j : Nat) : Bool := match dstOf ops j with
  | none => false
  | some d => slotB ops fl j d
def spineB (ops : Array Oper) (sp fl : List Nat) : Bool :=
  chainB ops sp && ((List.range ops.size).all fun i => sp.contains i || fl.contains i) && (fl.all fun j => !sp.contains j && decide (j < ops.size) && ((ops[j]?).bind (·.guard)).isNone && slotsB ops fl j) && (sp.all fun i => decide (i < ops.size)) && decide (sp.Nodup) &&
  (fl.all fun i => (operandsOf ops i).all fun t => (fl.any fun j => waitsB ops i j && dstOf ops j == some t) || ((fl.all fun j => dstOf ops j != some t) && sp.all fun j => dstOf ops j != some t || waitsB ops j i)) &&
  (sp.all fun i => (operandsOf ops i).all fun t => fl.all fun j => dstOf ops j != some t || waitsB ops i j)
def SpineQ (df : List Deferred) (W : World → Prop) (next : Act → World → Prop) : Exit → Act → World → Prop
  | .normal, a, w => a.defers = df ∧ W w ∧ next a w
  | _, _, _ => False
def putA : List (Nat × Tmp × Value) → Act → Act
  | [], a => a
  | x :: l, a => putA l (a.put (some x.2.1) x.2.2)
def valOf (fl : List (Nat × Tmp × Value)) (i : Nat) : Value := ((fl.find? fun y => y.1 == i).map (·.2.2)).getD undef
end
end Go.Proofs.Ytaminpfgkegibaa
/- A region whose last but one operation waits for all others, and whose last one waits for that: by facts for the others, and then those two. No conditions. -/
namespace Go.Proofs.Ytaminpfgkegibaa
set_option linter.unusedVariables false
set_option linter.unusedSimpArgs false
open Go.RowKit
section
variable {P : Program} {ops : Array Oper} {Q : Exit → Act → World → Prop} {G : World → World → Prop} {F : Nat → Value → World → Prop} {a0 : Act} {w0 : World}
def regT2B (ops : Array Oper) (m size : Nat) : Bool :=
  ops.size == m + 2 && ((List.range m).all fun j => waitsB ops m j || (List.range m).any fun k => decide (j < k) && waitsB ops k j) && ((List.range (m + 2)).all fun i => eldB ops i) && ((List.range m).all fun i => ownB ops m size i) && waitsB ops (m + 1) m
theorem region_tail2 {id m : Nat} (hm : P.follows .mixedOrders = true) (hrefl : G w0 w0.drew) (htrans : ∀ a b c, G a b → G b c → G a c) (hmono : ∀ j, j < m → ∀ v a b, F j v a → G a b → F j v b)
    (hreg : regT2B ops m a0.tmps.size = true) (howes : ∀ i, i < m → Owes P ops Q G F a0 w0 i)
    (fin : ∀ (vals : Nat → Value) (w : World), G w0 w → (∀ j, j < m → F j (vals j) w) → wpOp P ops Q m (fun a w => wpOp P ops Q (m + 1) (fun a w => Q .normal a w) a w) (putL ops vals (List.range m) a0) w) :
    (Code.region id ops true).wp P Q a0 w0 := by
  unfold regT2B at hreg
  simp only [Bool.and_eq_true, beq_iff_eq, List.all_eq_true, List.mem_range] at hreg
  obtain ⟨⟨⟨⟨hsize, hwaits⟩, held⟩, hown⟩, hlast⟩ := hreg
  have getT : ∀ (l : Array Bool) (k : Nat) (b c : Bool), k < l.size → l.getD k b = l.getD k c := by
    intro l k b c hk
    rw [Array.getD_eq_getD_getElem?, Array.getD_eq_getD_getElem?, Array.getElem?_eq_getElem hk]; rfl
  have main : ∀ (fuel : Nat) (listed : Array Bool) (a : Act) (w : World), listed.size = ops.size → listed.getD m true = false → listed.getD (m + 1) true = false →
      ((List.range ops.size).filter fun j => !listed.getD j true).length ≤ fuel →
      G w0 w → a.defers = a0.defers → a.tmps.size = a0.tmps.size →
      (∀ j, j < m → listed.getD j true = true → F j (valAt ops a j) w) →
      (∀ t, (∀ j, j < m → listed.getD j true = true → dstOf ops j ≠ some t) → a.tmps.getD t undef = a0.tmps.getD t undef) →
      (∀ j, j < m → listed.getD j true = true → ∀ k, waitsB ops j k = true → listed.getD k false = true) →
      wpAny P .any ops Q fuel listed a w := by
    intro fuel
    induction fuel with
    | zero =>
      intro listed a w hsz hun hun2 hcnt
      exfalso
      have : m ∈ (List.range ops.size).filter fun j => !listed.getD j true := List.mem_filter.2 ⟨List.mem_range.2 (by omega), by simp only [hun]; rfl⟩
      rw [List.eq_nil_of_length_eq_zero (Nat.le_zero.1 hcnt)] at this
      cases this
    | succ fuel ih =>
      intro listed a w hsz hun hun2 hcnt hG hd hs hF hR hC
      refine ⟨fun hr => ?_, fun i hi => ?_⟩
      · exfalso
        have up : ∀ j, j < m + 2 → listed.getD j true = true := by
          intro j
          induction j using Nat.strongRecOn with
          | ind j ihj =>
            intro hj
            cases hl : listed.getD j true with
            | true => rfl
            | false =>
              exfalso
              obtain ⟨o, ho, he⟩ := eldB_out (held j hj)
              have : j ∈ Region.ready .any ops listed := mem_ready.2 ⟨hl, o, ho, fun e hem hb => by
                have hlt := he e hem hb
                rw [getT _ _ false true (by omega)]
                exact ihj e.on hlt (by omega)⟩
              rw [hr] at this
              cases this
        rw [up m (by omega)] at hun
        cases hun
      · obtain ⟨hui, o, ho, hall⟩ := mem_ready.1 hi
        have hlt : i < ops.size := (Array.getElem?_eq_some_iff.1 ho).1
        have hlz : i < listed.size := by omega
        have hw : ∀ j, waitsB ops i j = true → j < ops.size ∧ listed.getD j true = true := by
          intro j hj
          obtain ⟨o', ho', e, he, hb, rfl⟩ := waits_some hj
          rw [ho] at ho'
          injection ho' with ho'
          subst ho'
          have h1 := hall e he hb
          rcases Nat.lt_or_ge e.on listed.size with hl | hl
          · refine ⟨by omega, ?_⟩
            rw [getT _ _ true false hl]
            exact h1
          · rw [Array.getD_eq_getD_getElem?, Array.getElem?_eq_none hl] at h1; cases h1
        have hset : ∀ j b, (listed.setIfInBounds i true).getD j b = if j = i then true else listed.getD j b := by
          intro j b
          rw [Array.getD_eq_getD_getElem?, Array.getD_eq_getD_getElem?, Array.getElem?_setIfInBounds]
          by_cases e : i = j
          · subst e; simp [hlz]
          · rw [if_neg e, if_neg (fun h => e h.symm)]
        by_cases him : i = m
        · subst him
          have hall2 : ∀ n j, j < i → i - j ≤ n → listed.getD j true = true := by
            intro n
            induction n with
            | zero => intro j hj hn; omega
            | succ n ihn =>
              intro j hj hn
              have h1 := hwaits j hj
              rw [Bool.or_eq_true] at h1
              rcases h1 with h1 | h1
              · exact (hw j h1).2
              · rw [List.any_eq_true] at h1
                obtain ⟨k, hk, hkj⟩ := h1
                rw [Bool.and_eq_true, decide_eq_true_eq] at hkj
                have hki := List.mem_range.1 hk
                rw [getT _ _ true false (by omega)]
                exact hC k hki (ihn k hki (by omega)) j hkj.2
          have hall' : ∀ j, j < i → listed.getD j true = true := fun j hj => hall2 (i - j) j hj (Nat.le_refl _)
          have h1 := fin (valAt ops a) w hG (fun j hj => hF j hj (hall' j hj))
          rw [putL_whole a (List.range i) a0 hs.symm hd.symm] at h1
          · refine wpOp_mono (fun a' w' hq => ?_) h1
            have hset2 : ∀ j, j < ops.size → j ≠ i + 1 → (listed.setIfInBounds i true).getD j true = true := fun j hj hne => by
              rw [hset]
              by_cases e : j = i
              · rw [if_pos e]
              · rw [if_neg e]; exact hall' j (by omega)
            have hun3 : (listed.setIfInBounds i true).getD (i + 1) true = false := by rw [hset, if_neg (by omega)]; exact hun2
            obtain ⟨f1, rfl⟩ : ∃ f, fuel = f + 1 := by
              have h2 : ((List.range ops.size).filter fun j => !listed.getD j true).length ≤ fuel + 1 := hcnt
              have h4 := List.Nodup.length_le_of_subset (l₁ := [i, i + 1]) (l₂ := (List.range ops.size).filter fun j => !listed.getD j true) (by simp) (fun x hx => by
                simp only [List.mem_cons, List.not_mem_nil, or_false] at hx
                rcases hx with rfl | rfl
                · exact List.mem_filter.2 ⟨List.mem_range.2 (by omega), by simp only [hun]; rfl⟩
                · exact List.mem_filter.2 ⟨List.mem_range.2 (by omega), by simp only [hun2]; rfl⟩)
              simp only [List.length_cons, List.length_nil] at h4
              exact ⟨fuel - 1, by omega⟩
            obtain ⟨o2, ho2, he2⟩ := eldB_out (held (i + 1) (by omega))
            have hrd : i + 1 ∈ Region.ready .any ops (listed.setIfInBounds i true) := mem_ready.2 ⟨hun3, o2, ho2, fun e hem hb => by
              have hlt2 := he2 e hem hb
              rw [getT _ _ false true (by simp only [Array.size_setIfInBounds]; omega)]
              exact hset2 e.on (by omega) (by omega)⟩
            refine ⟨fun hr => ?_, fun k hk => ?_⟩
            · exfalso
              rw [hr] at hrd
              cases hrd
            · obtain ⟨h2, o3, ho3, _⟩ := mem_ready.1 hk
              have hkl : k < ops.size := (Array.getElem?_eq_some_iff.1 ho3).1
              have hki : k = i + 1 := by
                by_cases e : k = i + 1
                · exact e
                · rw [hset2 k hkl e] at h2; cases h2
              subst hki
              refine wpOp_mono (fun a2 w2 hq2 => ?_) hq
              refine wpAny_done ?_ hq2 f1
              apply List.eq_nil_iff_forall_not_mem.2
              intro j hj
              obtain ⟨h5, o5, ho5, _⟩ := mem_ready.1 hj
              have hj2 : j < ops.size := (Array.getElem?_eq_some_iff.1 ho5).1
              rw [Array.getD_eq_getD_getElem?, Array.getElem?_setIfInBounds] at h5
              by_cases e : i + 1 = j
              · subst e
                rw [if_pos rfl] at h5
                simp [hsz, hj2] at h5
              · rw [if_neg e, ← Array.getD_eq_getD_getElem?, hset2 j hj2 (fun h => e h.symm)] at h5; cases h5
          · intro t
            by_cases e : ∃ j, j < i ∧ dstOf ops j = some t
            · obtain ⟨j, hj, hjd⟩ := e
              exact .inr ⟨j, List.mem_range.2 hj, hjd⟩
            · left
              exact (hR t fun j hj _ he => e ⟨j, hj, he⟩).symm
        · have him2 : i ≠ m + 1 := fun e => by
            subst e
            have h9 := (hw m hlast).2
            rw [hun] at h9; cases h9
          have hi' : i < m := by omega
          obtain ⟨d, hdo, hdl, hdd⟩ := ownB_out (hown i hi')
          have hwm : ∀ j, waitsB ops i j = true → j < m := by
            intro j hj
            obtain ⟨o', ho', e, he, hb, rfl⟩ := waits_some hj
            obtain ⟨o2, ho2, he2⟩ := eldB_out (held i (by omega))
            rw [ho'] at ho2
            injection ho2 with ho2
            subst ho2
            have := he2 e he hb
            omega
          have hstep := howes i hi' a w hG hd hs (fun j hj => hF j (hwm j hj) (hw j hj).2) (fun t ht => hR t fun j hj hl he => by
            have h1 := hC j hj hl i (ht j he)
            rw [getT _ _ false true hlz, hui] at h1
            cases h1)
          refine wpOp_mono ?_ hstep
          rintro a' w' ⟨v, rfl, hg, hf⟩
          rw [hdo]
          refine ih (listed.setIfInBounds i true) (a.put (some d) v) w' (by simp [hsz]) (by rw [hset, if_neg (fun h => him h.symm)]; exact hun) (by rw [hset, if_neg (fun h => him2 h.symm)]; exact hun2) ?_ (htrans _ _ _ hG hg) (by exact hd) (by rw [put_size, hs]) ?_ ?_ ?_
          · have := filter_less (p := fun j => !listed.getD j true) (q := fun j => !(listed.setIfInBounds i true).getD j true) (i := i) (l := List.range ops.size) (fun x hx => by
              rw [hset] at hx
              by_cases e : x = i
              · rw [if_pos e] at hx; cases hx
              · rw [if_neg e] at hx; exact hx) (List.mem_range.2 hlt) (by rw [hui]; rfl) (by rw [hset, if_pos rfl]; rfl)
            omega
          · intro j hj hl
            by_cases e : j = i
            · subst e
              unfold valAt
              rw [hdo]
              simp only
              rw [put_same _ _ _ (by rw [hs]; exact hdl)]
              exact hf
            · rw [hset, if_neg e] at hl
              have h1 := hmono j hj _ _ _ (hF j hj hl) hg
              have h2 : valAt ops (a.put (some d) v) j = valAt ops a j := by
                unfold valAt
                have hne := hdd j hj e
                cases hjd : dstOf ops j with
                | none => rfl
                | some dj =>
                  simp only
                  exact put_other _ _ _ _ (fun h => hne (by rw [hjd]; exact h.symm))
              rw [h2]
              exact h1
          · intro t ht
            have h1 : some d ≠ some t := fun h => ht i hi' (by rw [hset, if_pos rfl]) (by rw [hdo]; exact h)
            rw [put_other _ _ _ _ h1]
            exact hR t fun j hj hl => ht j hj (by rw [hset]; split <;> simp_all)
          · intro j hj hl k hk
            rw [hset]
            by_cases e : k = i
            · rw [if_pos e]
            · rw [if_neg e]
              by_cases e2 : j = i
              · subst e2
                have h1 := hw k hk
                rw [getT _ _ false true (by omega)]
                exact h1.2
              · rw [hset, if_neg e2] at hl
                exact hC j hj hl k hk
  refine wp_region_any hm ?_
  refine main ops.size (Array.replicate ops.size false) a0 w0.drew (by simp) ?_ ?_ ?_ hrefl rfl rfl ?_ ?_ ?_
  · rw [Array.getD_eq_getD_getElem?, Array.getElem?_eq_getElem (by simp; omega)]
    simp
  · rw [Array.getD_eq_getD_getElem?, Array.getElem?_eq_getElem (by simp; omega)]
    simp
  · exact Nat.le_trans (List.length_filter_le _ _) (by simp)
  · intro j hj hl
    rw [Array.getD_eq_getD_getElem?, Array.getElem?_eq_getElem (by simp; omega)] at hl
    simp at hl
  · intro t _; rfl
  · intro j hj hl
    rw [Array.getD_eq_getD_getElem?, Array.getElem?_eq_getElem (by simp; omega)] at hl
    simp at hl
/-- region_tail2, by lists. -/
theorem region_by_tail2 {id m : Nat} (Fs : List (Value → World → Prop)) (ds : List Tmp)
    (hm : P.follows .mixedOrders = true) (hrefl : G w0 w0.drew) (htrans : ∀ a b c, G a b → G b c → G a c)
    (hreg : regT2B ops m a0.tmps.size = true) (hds : (List.range' 0 m).map (dstOf ops) = ds.map some)
    (hmono : ∀ f ∈ Fs, ∀ v a b, f v a → G a b → f v b)
    (howes : AllN (Owes P ops Q G (fun j => Fs.getD j fun _ _ => True) a0 w0) m 0)
    (fin : ∀ (vals : Nat → Value) (w : World), G w0 w → (∀ j, j < m → (Fs.getD j fun _ _ => True) (vals j) w) → wpOp P ops Q m (fun a w => wpOp P ops Q (m + 1) (fun a w => Q .normal a w) a w) (putD vals ds 0 a0) w) :
    (Code.region id ops true).wp P Q a0 w0 := by
  refine region_tail2 (m := m) hm hrefl htrans ?_ hreg (fun i hi => howes.at_ _ _ i (by omega) (by omega)) ?_
  · intro j _ v a b h g
    rw [List.getD_eq_getElem?_getD] at h ⊢
    cases hj : Fs[j]? with
    | none => rw [hj] at h; exact trivial
    | some f => rw [hj] at h; exact hmono f (List.mem_of_getElem? hj) v a b h g
  · intro vals w hG hF
    rw [List.range_eq_range', putD_eq vals ds m 0 a0 hds]
    exact fin vals w hG hF
/-- The last but one, by what it does alone; the last one behind it. -/
theorem next_spine {m : Nat} {K : Act → World → Prop} {d : Option Tmp} {op : Op} {type : TypeId} {a : Act} {w : World} (ho : (ops[m]?).map (fun o => (o.op, o.type)) = some (op, type)) (hdo : (ops[m]?).map (·.dst) = some d) (hg : (ops[m]?).bind (·.guard) = none)
    (h : wpList P #[{ dst := d, op, type, pos := "", after := #[], guard := none }] (SpineQ a.defers (fun _ => True) K) [{ dst := d, op, type, pos := "", after := #[], guard := none }] a w) : wpOp P ops Q m K a w := by
  cases hi : ops[m]? with
  | none => rw [hi] at ho; cases ho
  | some o =>
    rw [hi] at ho hdo hg
    obtain ⟨dst, op', type', pos, after, guard⟩ := o
    simp only [Option.map_some, Option.some.injEq, Prod.mk.injEq] at ho hdo
    obtain ⟨rfl, rfl⟩ := ho
    subst hdo
    simp only [Option.bind_some] at hg
    subst hg
    unfold wpOp
    rw [hi]
    unfold wpList at h
    simp only [Region.wanted, if_true] at h ⊢
    left
    have he : execOp a.eval { dst, op := op', type := type', pos, after, guard := none } = execOp a.eval { dst, op := op', type := type', pos := "", after := #[], guard := none } := by
      cases op' <;> rfl
    rcases h with h | ⟨_, h2⟩
    · unfold Oper.wp at h ⊢
      rw [he]
      generalize (execOp a.eval { dst, op := op', type := type', pos := "", after := #[], guard := none }).run P w = r at *
      cases r with
      | ok n w' =>
        cases n <;> simp only [Oper.upon, wpList] at h ⊢
        case value u => exact h.2.2
        case skip => exact h.2.2
        case defer u => exact h.2.2
        case enter f args =>
          refine Calls.mono h fun e w'' he => ?_
          cases e with
          | returned u => exact he.2.2
          | panicked c => exact he.elim
          | outgrown => obtain ⟨_, _, hf⟩ := he; exact hf.elim
        case row row args => exact Rows.mono h fun u w'' he => he.2.2
      | halt x w' =>
        cases x <;> simp only [Oper.upon] at h ⊢
        case panic u => exact h.elim
    · obtain ⟨_, _, h3⟩ := h2
      exact h3.elim
theorem wpOp_weak {m : Nat} {K K2 : Act → World → Prop} {a : Act} {w : World} (h : wpOp P ops Q m K a w) (hk : ∀ a w, K a w → K2 a w) : wpOp P ops Q m K2 a w := wpOp_mono (fun a w => hk a w) h
theorem next_spine2 {m n : Nat} {d d2 : Option Tmp} {op op2 : Op} {type type2 : TypeId} {a : Act} {w : World} (ho : (ops[m]?).map (fun o => (o.op, o.type)) = some (op, type)) (hdo : (ops[m]?).map (·.dst) = some d) (hg : (ops[m]?).bind (·.guard) = none)
    (ho2 : (ops[n]?).map (fun o => (o.op, o.type)) = some (op2, type2)) (hdo2 : (ops[n]?).map (·.dst) = some d2) (hg2 : (ops[n]?).bind (·.guard) = none)
    (h : wpList P #[{ dst := d, op, type, pos := "", after := #[], guard := none }] (SpineQ a.defers (fun _ => True) (fun a w => wpList P #[{ dst := d2, op := op2, type := type2, pos := "", after := #[], guard := none }] Q [{ dst := d2, op := op2, type := type2, pos := "", after := #[], guard := none }] a w)) [{ dst := d, op, type, pos := "", after := #[], guard := none }] a w) :
    wpOp P ops Q m (fun a w => wpOp P ops Q n (fun a w => Q .normal a w) a w) a w :=
  wpOp_weak (next_spine ho hdo hg h) fun _ _ h => last_list ho2 hdo2 hg2 h
end
end Go.Proofs.Ytaminpfgkegibaa
/- The document's Found; regions of its Space. Conditions: right objects. -/
namespace Go.Proofs.Ytaminpfgkegibaa
set_option linter.unusedVariables false
set_option linter.unusedSimpArgs false
open Go.RowKit Go.Maps
set_option maxHeartbeats 4000000
set_option maxRecDepth 100000
/-- A new row of one finding. -/
def PFv (la B : Nat) (v : Value) (w : World) : Prop := ∃ q, v = .slice (some ⟨q, 0, none⟩) 1 1 ∧ B ≤ q ∧ Bk w q 76 #[.int .i64 (la : Int), .string ⟨#[112, 97, 100]⟩]
theorem PFv.mono {la B : Nat} {v : Value} {a b : World} (h : PFv la B v a) (g : Below a.heap.size a b) : PFv la B v b := by
  obtain ⟨q, e, hq, h⟩ := h
  exact ⟨q, e, hq, h.below g h.lt⟩
theorem rs15 (Q : Exit → Act → World → Prop) (a0 : Act) (w : World) (H R i a N : Nat) (adp : Addr) (pA : Option Addr) (pc : Nat) (P n : Int) (r : Bool) (hH : H < w.heap.size) (g0 : w.cell? ⟨H, 0, none⟩ = some (.int .i64 P)) (g1 : w.cell? ⟨H, 1, none⟩ = some (.int .i64 n)) (g2 : w.cell? ⟨H, 2, none⟩ = some (.bool false)) (g3 : w.cell? ⟨H, 3, none⟩ = some (.int .i64 0)) (hpA : pA = some adp) (hlt : (adp.add i).block < w.heap.size) (cp : w.cell? (adp.add i) = some (.int .i64 (a : Int))) (q0 : (0 : Int) ≤ (i : Int)) (q1 : (i : Int) < (N : Int)) (hp : Hid (∀ W, Below w.heap.size w W → Calls Try.prog 36 #[.pointer (some ⟨R, 0, none⟩), .int .i64 (a : Int), .agg #[.int .i64 P, .int .i64 n, .bool false, .int .i64 0]] W (RetP (.bool r) W))) (hsz : a0.tmps.size = 102) (sl8 : a0.tmps.getD 8 undef = .slice pA N pc) (sl10 : a0.tmps.getD 10 undef = .pointer (some ⟨R, 0, none⟩)) (sl11 : a0.tmps.getD 11 undef = .int .i64 (i : Int)) (sl12 : a0.tmps.getD 12 undef = .pointer (some ⟨H, 0, none⟩))
    (fin : ∀ (vals : Nat → Value) (w1 : World), Below w.heap.size w w1 → (IsV (.bool r)) (vals 6) w1 → Q .normal (putD vals [82, 83, 84, 85, 86, 87, 88] 0 a0) w1) :
    (Code.region 15 (regIn Try.f15 15) true).wp Try.prog Q a0 w := by
  refine region_by (G := fun w w1 => Below w.heap.size w w1) [IsV (.pointer (some ⟨R, 0, none⟩)),
    IsV (.slice pA N pc),
    IsV (.int .i64 (i : Int)),
    IsV (.pointer (some (adp.add i))),
    IsV (.int .i64 (a : Int)),
    IsV (.agg #[.int .i64 P, .int .i64 n, .bool false, .int .i64 0]),
    IsV (.bool r)]
    [82, 83, 84, 85, 86, 87, 88] (by kernel_rfl) (Gw.drew _) Gw.trans (by rw [hsz]; kernel_rfl) (by kernel_rfl) ?_ ?_ ?_
  · intro f hf
    simp only [List.mem_cons, List.not_mem_nil, or_false] at hf
    rcases hf with rfl | rfl | rfl | rfl | rfl | rfl | rfl <;> intro v a b h g <;> first | exact IsV.mono h
  · refine ⟨?_, ?_, ?_, ?_, ?_, ?_, ?_, trivial⟩
    · exact owes_mv 10 (by kernel_rfl) (by kernel_rfl) (by kernel_rfl) sl10 (fun _ => rfl)
    · exact owes_mv 8 (by kernel_rfl) (by kernel_rfl) (by kernel_rfl) sl8 (fun _ => rfl)
    · exact owes_mv 11 (by kernel_rfl) (by kernel_rfl) (by kernel_rfl) sl11 (fun _ => rfl)
    · refine owes_v (Go.Op.indexAddr 69 (Go.Operand.tmp 83) (Go.Operand.tmp 84)) 0 [1, 2] (by kernel_rfl) (by kernel_rfl) (by kernel_rfl) rfl fun vals w1 ρ hG hF hρ hcst hfun => ?_
      have e83 : ρ (.tmp 83) = .slice pA N pc := ((hρ 83).trans (slotJ [1, 2] (by rw [hsz]; decide) (by kernel_rfl))).trans (hF 1 (by decide))
      have e84 : ρ (.tmp 84) = .int .i64 (i : Int) := ((hρ 84).trans (slotJ [1, 2] (by rw [hsz]; decide) (by kernel_rfl))).trans (hF 2 (by decide))
      subst hpA
      clear hρ hF hcst hfun sl8 sl10 sl11 sl12 fin
      exact opv_val (by go_simp <;> rfl) ⟨gw_self _, rfl⟩
    · refine owes_v (Go.Op.load 3 (Go.Operand.tmp 85)) 3 [3] (by kernel_rfl) (by kernel_rfl) (by kernel_rfl) rfl fun vals w1 ρ hG hF hρ hcst hfun => ?_
      have e85 : ρ (.tmp 85) = .pointer (some (adp.add i)) := ((hρ 85).trans (slotJ [3] (by rw [hsz]; decide) (by kernel_rfl))).trans (hF 3 (by decide))
      have k := (hG.cell (p := adp.add i) hlt).trans cp
      clear hρ hF hcst hfun sl8 sl10 sl11 sl12 fin
      exact opv_val (by go_simp <;> rfl) ⟨gw_self _, rfl⟩
    · refine owes_v (Go.Op.load 88 (Go.Operand.tmp 12)) 88 [] (by kernel_rfl) (by kernel_rfl) (by kernel_rfl) rfl fun vals w1 ρ hG hF hρ hcst hfun => ?_
      have e12 : ρ (.tmp 12) = .pointer (some ⟨H, 0, none⟩) := ((hρ 12).trans (slotO [] (by kernel_rfl))).trans sl12
      have k0 := (hG.cell (p := ⟨H, 0, none⟩) hH).trans g0; have k1 := (hG.cell (p := ⟨H, 1, none⟩) hH).trans g1; have k2 := (hG.cell (p := ⟨H, 2, none⟩) hH).trans g2; have k3 := (hG.cell (p := ⟨H, 3, none⟩) hH).trans g3
      clear hρ hF hcst hfun sl8 sl10 sl11 sl12 fin
      exact opv_val (by go_simp <;> rfl) ⟨gw_self _, rfl⟩
    · refine owes_v (Go.Op.call { callee := Go.Callee.value (Go.Operand.func 36), args := #[Go.Operand.tmp 82, Go.Operand.tmp 86, Go.Operand.tmp 87], argTypes := #[39, 3, 88] }) 4 [0, 4, 5] (by kernel_rfl) (by kernel_rfl) (by kernel_rfl) rfl fun vals w1 ρ hG hF hρ hcst hfun => ?_
      have e82 : ρ (.tmp 82) = .pointer (some ⟨R, 0, none⟩) := ((hρ 82).trans (slotJ [0, 4, 5] (by rw [hsz]; decide) (by kernel_rfl))).trans (hF 0 (by decide))
      have e86 : ρ (.tmp 86) = .int .i64 (a : Int) := ((hρ 86).trans (slotJ [0, 4, 5] (by rw [hsz]; decide) (by kernel_rfl))).trans (hF 4 (by decide))
      have e87 : ρ (.tmp 87) = .agg #[.int .i64 P, .int .i64 n, .bool false, .int .i64 0] := ((hρ 87).trans (slotJ [0, 4, 5] (by rw [hsz]; decide) (by kernel_rfl))).trans (hF 5 (by decide))
      clear hρ hF hcst sl8 sl10 sl11 sl12 fin
      exact opv_enter (by go_simp <;> rfl) (of_ret (hp.out w1 hG))
  · intro vals w1 hG hF
    exact fin vals w1 hG (hF 6 (by decide +kernel))
theorem rs16 (Q : Exit → Act → World → Prop) (a0 : Act) (w : World) (H i a N sz la : Nat) (adp : Addr) (pA : Option Addr) (pc : Nat) (P n : Int) (ov : Value) (hH : H < w.heap.size) (g0 : w.cell? ⟨H, 0, none⟩ = some (.int .i64 P)) (g1 : w.cell? ⟨H, 1, none⟩ = some (.int .i64 n)) (g2 : w.cell? ⟨H, 2, none⟩ = some (.bool false)) (g3 : w.cell? ⟨H, 3, none⟩ = some (.int .i64 0)) (hpA : pA = some adp) (hlt : (adp.add i).block < w.heap.size) (cp : w.cell? (adp.add i) = some (.int .i64 (a : Int))) (q0 : (0 : Int) ≤ (i : Int)) (q1 : (i : Int) < (N : Int)) (z1 : (a : Int) + (sz : Int) - 1 = (la : Int)) (z2 : (a : Int) ≤ 8192) (z3 : (sz : Int) ≤ 8192) (z4 : (0 : Int) ≤ (a : Int)) (z5 : (1 : Int) ≤ (sz : Int)) (hp : Hid (∀ W, Calls Try.prog 37 #[.agg #[.int .i64 P, .int .i64 n, .bool false, .int .i64 0]] W (RetP (.int .i64 (sz : Int)) W))) (hsz : a0.tmps.size = 102) (sl7 : a0.tmps.getD 7 undef = ov) (sl8 : a0.tmps.getD 8 undef = .slice pA N pc) (sl11 : a0.tmps.getD 11 undef = .int .i64 (i : Int)) (sl12 : a0.tmps.getD 12 undef = .pointer (some ⟨H, 0, none⟩))
    (fin : ∀ (vals : Nat → Value) (w1 : World), Below w.heap.size w w1 → (IsV (ov)) (vals 0) w1 → (PFv la w.heap.size) (vals 10) w1 → wpList Try.prog #[{ dst := some 100, op := Go.Op.call { callee := Go.Callee.builtin Go.Builtin.append, args := #[Go.Operand.tmp 89, Go.Operand.tmp 99], argTypes := #[34, 34] }, type := 34, pos := "", after := #[], guard := none }] (SpineQ (putD vals [89, 90, 91, 92, 93, 94, 95, 96, 97, 98, 99] 0 a0).defers (fun _ => True) (fun a w => wpList Try.prog #[{ dst := some 7, op := Go.Op.assign (Go.Operand.tmp 100), type := 34, pos := "", after := #[], guard := none }] Q [{ dst := some 7, op := Go.Op.assign (Go.Operand.tmp 100), type := 34, pos := "", after := #[], guard := none }] a w)) [{ dst := some 100, op := Go.Op.call { callee := Go.Callee.builtin Go.Builtin.append, args := #[Go.Operand.tmp 89, Go.Operand.tmp 99], argTypes := #[34, 34] }, type := 34, pos := "", after := #[], guard := none }] (putD vals [89, 90, 91, 92, 93, 94, 95, 96, 97, 98, 99] 0 a0) w1) :
    (Code.region 16 (regIn Try.f15 16) true).wp Try.prog Q a0 w := by
  refine region_by_tail2 (m := 11) (G := fun w w1 => Below w.heap.size w w1) [IsV (ov),
    IsV (.slice pA N pc),
    IsV (.int .i64 (i : Int)),
    IsV (.pointer (some (adp.add i))),
    IsV (.int .i64 (a : Int)),
    IsV (.agg #[.int .i64 P, .int .i64 n, .bool false, .int .i64 0]),
    IsV (.int .i64 (sz : Int)),
    IsV (.int .i64 ((a : Int) + (sz : Int))),
    IsV (.int .i64 (la : Int)),
    IsV (.agg #[.int .i64 (la : Int), .string ⟨#[112, 97, 100]⟩]),
    PFv la w.heap.size]
    [89, 90, 91, 92, 93, 94, 95, 96, 97, 98, 99] (by kernel_rfl) (Gw.drew _) Gw.trans (by rw [hsz]; kernel_rfl) (by kernel_rfl) ?_ ?_ ?_
  · intro f hf
    simp only [List.mem_cons, List.not_mem_nil, or_false] at hf
    rcases hf with rfl | rfl | rfl | rfl | rfl | rfl | rfl | rfl | rfl | rfl | rfl <;> intro v a b h g <;> first | exact IsV.mono h | exact PFv.mono h g
  · refine ⟨?_, ?_, ?_, ?_, ?_, ?_, ?_, ?_, ?_, ?_, ?_, trivial⟩
    · exact owes_mv 7 (by kernel_rfl) (by kernel_rfl) (by kernel_rfl) sl7 (fun _ => rfl)
    · exact owes_mv 8 (by kernel_rfl) (by kernel_rfl) (by kernel_rfl) sl8 (fun _ => rfl)
    · exact owes_mv 11 (by kernel_rfl) (by kernel_rfl) (by kernel_rfl) sl11 (fun _ => rfl)
    · refine owes_v (Go.Op.indexAddr 69 (Go.Operand.tmp 90) (Go.Operand.tmp 91)) 0 [1, 2] (by kernel_rfl) (by kernel_rfl) (by kernel_rfl) rfl fun vals w1 ρ hG hF hρ hcst hfun => ?_
      have e90 : ρ (.tmp 90) = .slice pA N pc := ((hρ 90).trans (slotJ [1, 2] (by rw [hsz]; decide) (by kernel_rfl))).trans (hF 1 (by decide))
      have e91 : ρ (.tmp 91) = .int .i64 (i : Int) := ((hρ 91).trans (slotJ [1, 2] (by rw [hsz]; decide) (by kernel_rfl))).trans (hF 2 (by decide))
      subst hpA
      clear hρ hF hcst hfun sl7 sl8 sl11 sl12 fin
      exact opv_val (by go_simp <;> rfl) ⟨gw_self _, rfl⟩
    · refine owes_v (Go.Op.load 3 (Go.Operand.tmp 92)) 3 [3] (by kernel_rfl) (by kernel_rfl) (by kernel_rfl) rfl fun vals w1 ρ hG hF hρ hcst hfun => ?_
      have e92 : ρ (.tmp 92) = .pointer (some (adp.add i)) := ((hρ 92).trans (slotJ [3] (by rw [hsz]; decide) (by kernel_rfl))).trans (hF 3 (by decide))
      have k := (hG.cell (p := adp.add i) hlt).trans cp
      clear hρ hF hcst hfun sl7 sl8 sl11 sl12 fin
      exact opv_val (by go_simp <;> rfl) ⟨gw_self _, rfl⟩
    · refine owes_v (Go.Op.load 88 (Go.Operand.tmp 12)) 88 [] (by kernel_rfl) (by kernel_rfl) (by kernel_rfl) rfl fun vals w1 ρ hG hF hρ hcst hfun => ?_
      have e12 : ρ (.tmp 12) = .pointer (some ⟨H, 0, none⟩) := ((hρ 12).trans (slotO [] (by kernel_rfl))).trans sl12
      have k0 := (hG.cell (p := ⟨H, 0, none⟩) hH).trans g0; have k1 := (hG.cell (p := ⟨H, 1, none⟩) hH).trans g1; have k2 := (hG.cell (p := ⟨H, 2, none⟩) hH).trans g2; have k3 := (hG.cell (p := ⟨H, 3, none⟩) hH).trans g3
      clear hρ hF hcst hfun sl7 sl8 sl11 sl12 fin
      exact opv_val (by go_simp <;> rfl) ⟨gw_self _, rfl⟩
    · refine owes_v (Go.Op.call { callee := Go.Callee.value (Go.Operand.func 37), args := #[Go.Operand.tmp 94], argTypes := #[88] }) 3 [5] (by kernel_rfl) (by kernel_rfl) (by kernel_rfl) rfl fun vals w1 ρ hG hF hρ hcst hfun => ?_
      have e94 : ρ (.tmp 94) = .agg #[.int .i64 P, .int .i64 n, .bool false, .int .i64 0] := ((hρ 94).trans (slotJ [5] (by rw [hsz]; decide) (by kernel_rfl))).trans (hF 5 (by decide))
      clear hρ hF hcst sl7 sl8 sl11 sl12 fin
      exact opv_enter (by go_simp <;> rfl) (of_ret (hp.out w1))
    · refine owes_v (Go.Op.binOp Go.BinOp.add 3 (Go.Operand.tmp 93) (Go.Operand.tmp 95) 3) 3 [4, 6] (by kernel_rfl) (by kernel_rfl) (by kernel_rfl) rfl fun vals w1 ρ hG hF hρ hcst hfun => ?_
      have e93 : ρ (.tmp 93) = .int .i64 (a : Int) := ((hρ 93).trans (slotJ [4, 6] (by rw [hsz]; decide) (by kernel_rfl))).trans (hF 4 (by decide))
      have e95 : ρ (.tmp 95) = .int .i64 (sz : Int) := ((hρ 95).trans (slotJ [4, 6] (by rw [hsz]; decide) (by kernel_rfl))).trans (hF 6 (by decide))
      have kw0 : IntKind.i64.wrap (((a : Int) + (sz : Int))) = ((a : Int) + (sz : Int)) := wrapIn (by omega) (by omega)
      clear hρ hF hcst hfun sl7 sl8 sl11 sl12 fin
      exact opv_val (by go_simp <;> rfl) ⟨gw_self _, rfl⟩
    · refine owes_v (Go.Op.binOp Go.BinOp.sub 3 (Go.Operand.tmp 96) (Go.Operand.const (Go.Value.int Go.IntKind.i64 1)) 3) 3 [7] (by kernel_rfl) (by kernel_rfl) (by kernel_rfl) rfl fun vals w1 ρ hG hF hρ hcst hfun => ?_
      have e96 : ρ (.tmp 96) = .int .i64 ((a : Int) + (sz : Int)) := ((hρ 96).trans (slotJ [7] (by rw [hsz]; decide) (by kernel_rfl))).trans (hF 7 (by decide))
      have kw0 : IntKind.i64.wrap ((la : Int)) = (la : Int) := wrapIn (by omega) (by omega)
      clear hρ hF hfun sl7 sl8 sl11 sl12 fin
      exact opv_val (by go_simp <;> rfl) ⟨gw_self _, rfl⟩
    · refine owes_v (Go.Op.build 76 #[(0, Go.Operand.tmp 97), (1, Go.Operand.const (Go.Value.string { data := #[112, 97, 100] }))]) 76 [8] (by kernel_rfl) (by kernel_rfl) (by kernel_rfl) rfl fun vals w1 ρ hG hF hρ hcst hfun => ?_
      have e97 : ρ (.tmp 97) = .int .i64 (la : Int) := ((hρ 97).trans (slotJ [8] (by rw [hsz]; decide) (by kernel_rfl))).trans (hF 8 (by decide))
      clear hρ hF hfun sl7 sl8 sl11 sl12 fin
      exact opv_val (by go_simp <;> rfl) ⟨gw_self _, rfl⟩
    · refine owes_v (Go.Op.buildSlice 34 1 #[(0, Go.Operand.tmp 98)]) 34 [9] (by kernel_rfl) (by kernel_rfl) (by kernel_rfl) rfl fun vals w1 ρ hG hF hρ hcst hfun => ?_
      have e98 : ρ (.tmp 98) = .agg #[.int .i64 (la : Int), .string ⟨#[112, 97, 100]⟩] := ((hρ 98).trans (slotJ [9] (by rw [hsz]; decide) (by kernel_rfl))).trans (hF 9 (by decide))
      clear hρ hF hcst hfun sl7 sl8 sl11 sl12 fin
      exact opv_val (by go_simp <;> rfl) ⟨Gw.alloc _ _, ⟨_, rfl, hG.size, Bk.new w1 _ _⟩⟩
  · intro vals w1 hG hF
    exact next_spine2 (by kernel_rfl) (by kernel_rfl) (by kernel_rfl) (by kernel_rfl) (by kernel_rfl) (by kernel_rfl) (fin vals w1 hG (hF 0 (by decide +kernel)) (hF 10 (by decide +kernel)))
end Go.Proofs.Ytaminpfgkegibaa
