/- Texts joined: ObN RcN RegS RegU RdB RdC RdD ObO. -/
import Derived.Test.YtbanbpphadgoiaaZb8
import Derived.Deep.LoopGhost
import Derived.Test.YtbanbpphadgoiaaRegV
import Derived.Test.YtbanbpphadgoiaaRegT
import Derived.Test.YtbanbpphadgoiaaSpH
/- The reference's Well. Conditions: lengths. -/
namespace Go.Proofs.Ytbanbpphadgoiaa
set_option linter.unusedVariables false
set_option linter.unusedSimpArgs false
open Go.RowKit Go.Maps
set_option maxHeartbeats 1000000
set_option maxRecDepth 100000
theorem rw7 (Q : Exit → Act → World → Prop) (a0 : Act) (w : World) (R a i N : Nat) (A B : Option Addr) (L c cl : Nat) (x : BitVec 64) (P n : Int) (hR : R < w.heap.size) (ad ad2 : Addr) (hA : A = some ad) (hB : B = some ad2) (c0 : w.cell? ⟨R, 0, none⟩ = some (.slice A L c)) (hlt : (ad2.add i).block < w.heap.size) (hlt2 : (ad.add a).block < w.heap.size) (cl1 : w.cell? (ad2.add i) = some (.int .i64 (a : Int))) (q0 : (0 : Int) ≤ (i : Int)) (q1 : (i : Int) < (N : Int)) (q2 : (0 : Int) ≤ (a : Int)) (q6 : (a : Int) < (L : Int)) (cw : w.cell? (ad.add a) = some (.int .u64 (U64 x))) (hp : Hid (∀ W, Calls Try.prog 65 #[.int .u64 (U64 x)] W (RetP (.tuple #[.agg #[.int .i64 P, .int .i64 n, .bool false, .int .i64 0], .int .i64 0]) W))) (hsz : a0.tmps.size = 65) (sl0 : a0.tmps.getD 0 undef = .pointer (some ⟨R, 0, none⟩)) (sl3 : a0.tmps.getD 3 undef = .slice B N cl) (sl5 : a0.tmps.getD 5 undef = .int .i64 (i : Int))
    (fin : ∀ (vals : Nat → Value) (w1 : World), Below w.heap.size w w1 → (BoxC 112 (#[.int .i64 P, .int .i64 n, .bool false, .int .i64 0]) w.heap.size) (vals 14) w1 → (IsV (.int .i64 0)) (vals 16) w1 → Q .normal (putO vals [some 23, some 24, some 25, some 26, some 27, some 28, some 29, some 30, some 31, some 32, some 33, some 22, some 34, some 35, some 6, none, some 7] 0 a0) w1) :
    (Code.region 7 (regIn Try.f34 7) true).wp Try.prog Q a0 w := by
  have hGs : ∀ (j : Nat) (v : Value) (w3 : World), (srcOf [(15, 14)] j = j → (([IsV (.pointer (some ⟨R, 0, none⟩)), IsV (.pointer (some ⟨R, 0, none⟩)), IsV (.pointer (some ⟨R, 0, none⟩)), IsV (.slice A L c), IsV (.slice B N cl), IsV (.int .i64 (i : Int)), IsV (.pointer (some (ad2.add i))), IsV (.int .i64 (a : Int)), IsV (.pointer (some (ad.add a))), IsV (.int .u64 (U64 x)), IsV (.tuple #[.agg #[.int .i64 P, .int .i64 n, .bool false, .int .i64 0], .int .i64 0]), IsV (.tuple #[.agg #[.int .i64 P, .int .i64 n, .bool false, .int .i64 0], .int .i64 0]), IsV (.agg #[.int .i64 P, .int .i64 n, .bool false, .int .i64 0]), IsV (.int .i64 0), BoxV 112 4 w.heap.size, BoxC 112 (#[.int .i64 P, .int .i64 n, .bool false, .int .i64 0]) w.heap.size, IsV (.int .i64 0)] : List (Value → World → Prop)).getD j fun _ _ => True) v w3) → (([IsV (.pointer (some ⟨R, 0, none⟩)), IsV (.pointer (some ⟨R, 0, none⟩)), IsV (.pointer (some ⟨R, 0, none⟩)), IsV (.slice A L c), IsV (.slice B N cl), IsV (.int .i64 (i : Int)), IsV (.pointer (some (ad2.add i))), IsV (.int .i64 (a : Int)), IsV (.pointer (some (ad.add a))), IsV (.int .u64 (U64 x)), IsV (.tuple #[.agg #[.int .i64 P, .int .i64 n, .bool false, .int .i64 0], .int .i64 0]), IsV (.tuple #[.agg #[.int .i64 P, .int .i64 n, .bool false, .int .i64 0], .int .i64 0]), IsV (.agg #[.int .i64 P, .int .i64 n, .bool false, .int .i64 0]), IsV (.int .i64 0), BoxV 112 4 w.heap.size, fun _ _ => True, IsV (.int .i64 0)] : List (Value → World → Prop)).getD j fun _ _ => True) v w3 := by
    intro j v w3 h
    match j, h with
    | 0, h => exact h rfl
    | 1, h => exact h rfl
    | 2, h => exact h rfl
    | 3, h => exact h rfl
    | 4, h => exact h rfl
    | 5, h => exact h rfl
    | 6, h => exact h rfl
    | 7, h => exact h rfl
    | 8, h => exact h rfl
    | 9, h => exact h rfl
    | 10, h => exact h rfl
    | 11, h => exact h rfl
    | 12, h => exact h rfl
    | 13, h => exact h rfl
    | 14, h => exact h rfl
    | 15, h => exact trivial
    | 16, h => exact h rfl
    | _ + 17, _ => exact trivial
  refine region_byG [IsV (.pointer (some ⟨R, 0, none⟩)),
    IsV (.pointer (some ⟨R, 0, none⟩)),
    IsV (.pointer (some ⟨R, 0, none⟩)),
    IsV (.slice A L c),
    IsV (.slice B N cl),
    IsV (.int .i64 (i : Int)),
    IsV (.pointer (some (ad2.add i))),
    IsV (.int .i64 (a : Int)),
    IsV (.pointer (some (ad.add a))),
    IsV (.int .u64 (U64 x)),
    IsV (.tuple #[.agg #[.int .i64 P, .int .i64 n, .bool false, .int .i64 0], .int .i64 0]),
    IsV (.tuple #[.agg #[.int .i64 P, .int .i64 n, .bool false, .int .i64 0], .int .i64 0]),
    IsV (.agg #[.int .i64 P, .int .i64 n, .bool false, .int .i64 0]),
    IsV (.int .i64 0),
    BoxV 112 4 w.heap.size,
    BoxC 112 (#[.int .i64 P, .int .i64 n, .bool false, .int .i64 0]) w.heap.size,
    IsV (.int .i64 0)] [(15, StD 112 4 w.heap.size)] [(15, 14)]
    [some 23, some 24, some 25, some 26, some 27, some 28, some 29, some 30, some 31, some 32, some 33, some 22, some 34, some 35, some 6, none, some 7] (by kernel_rfl) (by rw [hsz]; kernel_rfl) (by kernel_rfl) (by kernel_rfl) ?_ ?_ ?_ ?_
  · intro f hf
    simp only [List.mem_cons, List.not_mem_nil, or_false] at hf
    rcases hf with rfl | rfl | rfl | rfl | rfl | rfl | rfl | rfl | rfl | rfl | rfl | rfl | rfl | rfl | rfl | rfl | rfl <;> intro v a b h g <;> first | exact IsV.mono h | exact BoxV.mono h g | exact BoxC.mono h g
  · intro p hp
    simp only [List.mem_cons, List.not_mem_nil, or_false] at hp
    rcases hp with rfl
    · refine ⟨fun a b h1 h2 => StD.below (Nat.le_refl _) h1 h1.size h2, ?_⟩
      intro f hf
      simp only [List.eraseIdx_cons_succ, List.eraseIdx_cons_zero, List.mem_cons, List.not_mem_nil, or_false] at hf
      rcases hf with rfl | rfl | rfl | rfl | rfl | rfl | rfl | rfl | rfl | rfl | rfl | rfl | rfl | rfl | rfl | rfl <;> intro v a b h g <;> first | exact IsV.st h g | exact BoxV.st h g | exact BoxC.st (by decide) h g
  · refine ⟨?_, ?_, ?_, ?_, ?_, ?_, ?_, ?_, ?_, ?_, ?_, ?_, ?_, ?_, ?_, ?_, ?_, trivial⟩
    · refine OwesG.mk2 (D := Gw) (F' := fun j => ([IsV (.pointer (some ⟨R, 0, none⟩)), IsV (.pointer (some ⟨R, 0, none⟩)), IsV (.pointer (some ⟨R, 0, none⟩)), IsV (.slice A L c), IsV (.slice B N cl), IsV (.int .i64 (i : Int)), IsV (.pointer (some (ad2.add i))), IsV (.int .i64 (a : Int)), IsV (.pointer (some (ad.add a))), IsV (.int .u64 (U64 x)), IsV (.tuple #[.agg #[.int .i64 P, .int .i64 n, .bool false, .int .i64 0], .int .i64 0]), IsV (.tuple #[.agg #[.int .i64 P, .int .i64 n, .bool false, .int .i64 0], .int .i64 0]), IsV (.agg #[.int .i64 P, .int .i64 n, .bool false, .int .i64 0]), IsV (.int .i64 0), BoxV 112 4 w.heap.size, fun _ _ => True, IsV (.int .i64 0)] : List (Value → World → Prop)).getD j fun _ _ => True) rfl hGs (fun v w h => h) ?_
      exact owes_mvD gw_self 0 (by kernel_rfl) (by kernel_rfl) (by kernel_rfl) sl0 (fun _ => rfl)
    · refine OwesG.mk2 (D := Gw) (F' := fun j => ([IsV (.pointer (some ⟨R, 0, none⟩)), IsV (.pointer (some ⟨R, 0, none⟩)), IsV (.pointer (some ⟨R, 0, none⟩)), IsV (.slice A L c), IsV (.slice B N cl), IsV (.int .i64 (i : Int)), IsV (.pointer (some (ad2.add i))), IsV (.int .i64 (a : Int)), IsV (.pointer (some (ad.add a))), IsV (.int .u64 (U64 x)), IsV (.tuple #[.agg #[.int .i64 P, .int .i64 n, .bool false, .int .i64 0], .int .i64 0]), IsV (.tuple #[.agg #[.int .i64 P, .int .i64 n, .bool false, .int .i64 0], .int .i64 0]), IsV (.agg #[.int .i64 P, .int .i64 n, .bool false, .int .i64 0]), IsV (.int .i64 0), BoxV 112 4 w.heap.size, fun _ _ => True, IsV (.int .i64 0)] : List (Value → World → Prop)).getD j fun _ _ => True) rfl hGs (fun v w h => h) ?_
      refine owes_vD (Go.Op.nilCheck (Go.Operand.tmp 23)) 0 [0] (by kernel_rfl) (by kernel_rfl) (by kernel_rfl) rfl fun vals w1 ρ hG hF hρ hcst hfun => ?_
      have e23 : ρ (.tmp 23) = .pointer (some ⟨R, 0, none⟩) := ((hρ 23).trans (slotJ [0] (by rw [hsz]; decide) (by kernel_rfl))).trans (hF 0 (by decide))
      clear hρ hF hGs hcst hfun sl0 sl3 sl5 fin
      exact opv_val (by go_simp <;> rfl) ⟨gw_self _, rfl⟩
    · refine OwesG.mk2 (D := Gw) (F' := fun j => ([IsV (.pointer (some ⟨R, 0, none⟩)), IsV (.pointer (some ⟨R, 0, none⟩)), IsV (.pointer (some ⟨R, 0, none⟩)), IsV (.slice A L c), IsV (.slice B N cl), IsV (.int .i64 (i : Int)), IsV (.pointer (some (ad2.add i))), IsV (.int .i64 (a : Int)), IsV (.pointer (some (ad.add a))), IsV (.int .u64 (U64 x)), IsV (.tuple #[.agg #[.int .i64 P, .int .i64 n, .bool false, .int .i64 0], .int .i64 0]), IsV (.tuple #[.agg #[.int .i64 P, .int .i64 n, .bool false, .int .i64 0], .int .i64 0]), IsV (.agg #[.int .i64 P, .int .i64 n, .bool false, .int .i64 0]), IsV (.int .i64 0), BoxV 112 4 w.heap.size, fun _ _ => True, IsV (.int .i64 0)] : List (Value → World → Prop)).getD j fun _ _ => True) rfl hGs (fun v w h => h) ?_
      refine owes_vD (Go.Op.fieldAddr 30 (Go.Operand.tmp 24) 0) 0 [1] (by kernel_rfl) (by kernel_rfl) (by kernel_rfl) rfl fun vals w1 ρ hG hF hρ hcst hfun => ?_
      have e24 : ρ (.tmp 24) = .pointer (some ⟨R, 0, none⟩) := ((hρ 24).trans (slotJ [1] (by rw [hsz]; decide) (by kernel_rfl))).trans (hF 1 (by decide))
      clear hρ hF hGs hcst hfun sl0 sl3 sl5 fin
      exact opv_val (by go_simp <;> rfl) ⟨gw_self _, rfl⟩
    · refine OwesG.mk2 (D := Gw) (F' := fun j => ([IsV (.pointer (some ⟨R, 0, none⟩)), IsV (.pointer (some ⟨R, 0, none⟩)), IsV (.pointer (some ⟨R, 0, none⟩)), IsV (.slice A L c), IsV (.slice B N cl), IsV (.int .i64 (i : Int)), IsV (.pointer (some (ad2.add i))), IsV (.int .i64 (a : Int)), IsV (.pointer (some (ad.add a))), IsV (.int .u64 (U64 x)), IsV (.tuple #[.agg #[.int .i64 P, .int .i64 n, .bool false, .int .i64 0], .int .i64 0]), IsV (.tuple #[.agg #[.int .i64 P, .int .i64 n, .bool false, .int .i64 0], .int .i64 0]), IsV (.agg #[.int .i64 P, .int .i64 n, .bool false, .int .i64 0]), IsV (.int .i64 0), BoxV 112 4 w.heap.size, fun _ _ => True, IsV (.int .i64 0)] : List (Value → World → Prop)).getD j fun _ _ => True) rfl hGs (fun v w h => h) ?_
      refine owes_vD (Go.Op.load 22 (Go.Operand.tmp 25)) 22 [2] (by kernel_rfl) (by kernel_rfl) (by kernel_rfl) rfl fun vals w1 ρ hG hF hρ hcst hfun => ?_
      have e25 : ρ (.tmp 25) = .pointer (some ⟨R, 0, none⟩) := ((hρ 25).trans (slotJ [2] (by rw [hsz]; decide) (by kernel_rfl))).trans (hF 2 (by decide))
      have k := (hG.cell (p := ⟨R, 0, none⟩) hR).trans c0
      clear hρ hF hGs hcst hfun sl0 sl3 sl5 fin
      exact opv_val (by go_simp <;> rfl) ⟨gw_self _, rfl⟩
    · refine OwesG.mk2 (D := Gw) (F' := fun j => ([IsV (.pointer (some ⟨R, 0, none⟩)), IsV (.pointer (some ⟨R, 0, none⟩)), IsV (.pointer (some ⟨R, 0, none⟩)), IsV (.slice A L c), IsV (.slice B N cl), IsV (.int .i64 (i : Int)), IsV (.pointer (some (ad2.add i))), IsV (.int .i64 (a : Int)), IsV (.pointer (some (ad.add a))), IsV (.int .u64 (U64 x)), IsV (.tuple #[.agg #[.int .i64 P, .int .i64 n, .bool false, .int .i64 0], .int .i64 0]), IsV (.tuple #[.agg #[.int .i64 P, .int .i64 n, .bool false, .int .i64 0], .int .i64 0]), IsV (.agg #[.int .i64 P, .int .i64 n, .bool false, .int .i64 0]), IsV (.int .i64 0), BoxV 112 4 w.heap.size, fun _ _ => True, IsV (.int .i64 0)] : List (Value → World → Prop)).getD j fun _ _ => True) rfl hGs (fun v w h => h) ?_
      exact owes_mvD gw_self 3 (by kernel_rfl) (by kernel_rfl) (by kernel_rfl) sl3 (fun _ => rfl)
    · refine OwesG.mk2 (D := Gw) (F' := fun j => ([IsV (.pointer (some ⟨R, 0, none⟩)), IsV (.pointer (some ⟨R, 0, none⟩)), IsV (.pointer (some ⟨R, 0, none⟩)), IsV (.slice A L c), IsV (.slice B N cl), IsV (.int .i64 (i : Int)), IsV (.pointer (some (ad2.add i))), IsV (.int .i64 (a : Int)), IsV (.pointer (some (ad.add a))), IsV (.int .u64 (U64 x)), IsV (.tuple #[.agg #[.int .i64 P, .int .i64 n, .bool false, .int .i64 0], .int .i64 0]), IsV (.tuple #[.agg #[.int .i64 P, .int .i64 n, .bool false, .int .i64 0], .int .i64 0]), IsV (.agg #[.int .i64 P, .int .i64 n, .bool false, .int .i64 0]), IsV (.int .i64 0), BoxV 112 4 w.heap.size, fun _ _ => True, IsV (.int .i64 0)] : List (Value → World → Prop)).getD j fun _ _ => True) rfl hGs (fun v w h => h) ?_
      exact owes_mvD gw_self 5 (by kernel_rfl) (by kernel_rfl) (by kernel_rfl) sl5 (fun _ => rfl)
    · refine OwesG.mk2 (D := Gw) (F' := fun j => ([IsV (.pointer (some ⟨R, 0, none⟩)), IsV (.pointer (some ⟨R, 0, none⟩)), IsV (.pointer (some ⟨R, 0, none⟩)), IsV (.slice A L c), IsV (.slice B N cl), IsV (.int .i64 (i : Int)), IsV (.pointer (some (ad2.add i))), IsV (.int .i64 (a : Int)), IsV (.pointer (some (ad.add a))), IsV (.int .u64 (U64 x)), IsV (.tuple #[.agg #[.int .i64 P, .int .i64 n, .bool false, .int .i64 0], .int .i64 0]), IsV (.tuple #[.agg #[.int .i64 P, .int .i64 n, .bool false, .int .i64 0], .int .i64 0]), IsV (.agg #[.int .i64 P, .int .i64 n, .bool false, .int .i64 0]), IsV (.int .i64 0), BoxV 112 4 w.heap.size, fun _ _ => True, IsV (.int .i64 0)] : List (Value → World → Prop)).getD j fun _ _ => True) rfl hGs (fun v w h => h) ?_
      refine owes_vD (Go.Op.indexAddr 23 (Go.Operand.tmp 27) (Go.Operand.tmp 28)) 0 [4, 5] (by kernel_rfl) (by kernel_rfl) (by kernel_rfl) rfl fun vals w1 ρ hG hF hρ hcst hfun => ?_
      have e27 : ρ (.tmp 27) = .slice B N cl := ((hρ 27).trans (slotJ [4, 5] (by rw [hsz]; decide) (by kernel_rfl))).trans (hF 4 (by decide))
      have e28 : ρ (.tmp 28) = .int .i64 (i : Int) := ((hρ 28).trans (slotJ [4, 5] (by rw [hsz]; decide) (by kernel_rfl))).trans (hF 5 (by decide))
      subst hB
      clear hρ hF hGs hcst hfun sl0 sl3 sl5 fin
      exact opv_val (by go_simp <;> rfl) ⟨gw_self _, rfl⟩
    · refine OwesG.mk2 (D := Gw) (F' := fun j => ([IsV (.pointer (some ⟨R, 0, none⟩)), IsV (.pointer (some ⟨R, 0, none⟩)), IsV (.pointer (some ⟨R, 0, none⟩)), IsV (.slice A L c), IsV (.slice B N cl), IsV (.int .i64 (i : Int)), IsV (.pointer (some (ad2.add i))), IsV (.int .i64 (a : Int)), IsV (.pointer (some (ad.add a))), IsV (.int .u64 (U64 x)), IsV (.tuple #[.agg #[.int .i64 P, .int .i64 n, .bool false, .int .i64 0], .int .i64 0]), IsV (.tuple #[.agg #[.int .i64 P, .int .i64 n, .bool false, .int .i64 0], .int .i64 0]), IsV (.agg #[.int .i64 P, .int .i64 n, .bool false, .int .i64 0]), IsV (.int .i64 0), BoxV 112 4 w.heap.size, fun _ _ => True, IsV (.int .i64 0)] : List (Value → World → Prop)).getD j fun _ _ => True) rfl hGs (fun v w h => h) ?_
      refine owes_vD (Go.Op.load 3 (Go.Operand.tmp 29)) 3 [6] (by kernel_rfl) (by kernel_rfl) (by kernel_rfl) rfl fun vals w1 ρ hG hF hρ hcst hfun => ?_
      have e29 : ρ (.tmp 29) = .pointer (some (ad2.add i)) := ((hρ 29).trans (slotJ [6] (by rw [hsz]; decide) (by kernel_rfl))).trans (hF 6 (by decide))
      have k := (hG.cell (p := ad2.add i) hlt).trans cl1
      clear hρ hF hGs hcst hfun sl0 sl3 sl5 fin
      exact opv_val (by go_simp <;> rfl) ⟨gw_self _, rfl⟩
    · refine OwesG.mk2 (D := Gw) (F' := fun j => ([IsV (.pointer (some ⟨R, 0, none⟩)), IsV (.pointer (some ⟨R, 0, none⟩)), IsV (.pointer (some ⟨R, 0, none⟩)), IsV (.slice A L c), IsV (.slice B N cl), IsV (.int .i64 (i : Int)), IsV (.pointer (some (ad2.add i))), IsV (.int .i64 (a : Int)), IsV (.pointer (some (ad.add a))), IsV (.int .u64 (U64 x)), IsV (.tuple #[.agg #[.int .i64 P, .int .i64 n, .bool false, .int .i64 0], .int .i64 0]), IsV (.tuple #[.agg #[.int .i64 P, .int .i64 n, .bool false, .int .i64 0], .int .i64 0]), IsV (.agg #[.int .i64 P, .int .i64 n, .bool false, .int .i64 0]), IsV (.int .i64 0), BoxV 112 4 w.heap.size, fun _ _ => True, IsV (.int .i64 0)] : List (Value → World → Prop)).getD j fun _ _ => True) rfl hGs (fun v w h => h) ?_
      refine owes_vD (Go.Op.indexAddr 22 (Go.Operand.tmp 26) (Go.Operand.tmp 30)) 0 [3, 7] (by kernel_rfl) (by kernel_rfl) (by kernel_rfl) rfl fun vals w1 ρ hG hF hρ hcst hfun => ?_
      have e26 : ρ (.tmp 26) = .slice A L c := ((hρ 26).trans (slotJ [3, 7] (by rw [hsz]; decide) (by kernel_rfl))).trans (hF 3 (by decide))
      have e30 : ρ (.tmp 30) = .int .i64 (a : Int) := ((hρ 30).trans (slotJ [3, 7] (by rw [hsz]; decide) (by kernel_rfl))).trans (hF 7 (by decide))
      subst hA
      clear hρ hF hGs hcst hfun sl0 sl3 sl5 fin
      exact opv_val (by go_simp <;> rfl) ⟨gw_self _, rfl⟩
    · refine OwesG.mk2 (D := Gw) (F' := fun j => ([IsV (.pointer (some ⟨R, 0, none⟩)), IsV (.pointer (some ⟨R, 0, none⟩)), IsV (.pointer (some ⟨R, 0, none⟩)), IsV (.slice A L c), IsV (.slice B N cl), IsV (.int .i64 (i : Int)), IsV (.pointer (some (ad2.add i))), IsV (.int .i64 (a : Int)), IsV (.pointer (some (ad.add a))), IsV (.int .u64 (U64 x)), IsV (.tuple #[.agg #[.int .i64 P, .int .i64 n, .bool false, .int .i64 0], .int .i64 0]), IsV (.tuple #[.agg #[.int .i64 P, .int .i64 n, .bool false, .int .i64 0], .int .i64 0]), IsV (.agg #[.int .i64 P, .int .i64 n, .bool false, .int .i64 0]), IsV (.int .i64 0), BoxV 112 4 w.heap.size, fun _ _ => True, IsV (.int .i64 0)] : List (Value → World → Prop)).getD j fun _ _ => True) rfl hGs (fun v w h => h) ?_
      refine owes_vD (Go.Op.load 62 (Go.Operand.tmp 31)) 62 [8] (by kernel_rfl) (by kernel_rfl) (by kernel_rfl) rfl fun vals w1 ρ hG hF hρ hcst hfun => ?_
      have e31 : ρ (.tmp 31) = .pointer (some (ad.add a)) := ((hρ 31).trans (slotJ [8] (by rw [hsz]; decide) (by kernel_rfl))).trans (hF 8 (by decide))
      have k := (hG.cell (p := ad.add a) hlt2).trans cw
      clear hρ hF hGs hcst hfun sl0 sl3 sl5 fin
      exact opv_val (by go_simp <;> rfl) ⟨gw_self _, rfl⟩
    · refine OwesG.mk2 (D := Gw) (F' := fun j => ([IsV (.pointer (some ⟨R, 0, none⟩)), IsV (.pointer (some ⟨R, 0, none⟩)), IsV (.pointer (some ⟨R, 0, none⟩)), IsV (.slice A L c), IsV (.slice B N cl), IsV (.int .i64 (i : Int)), IsV (.pointer (some (ad2.add i))), IsV (.int .i64 (a : Int)), IsV (.pointer (some (ad.add a))), IsV (.int .u64 (U64 x)), IsV (.tuple #[.agg #[.int .i64 P, .int .i64 n, .bool false, .int .i64 0], .int .i64 0]), IsV (.tuple #[.agg #[.int .i64 P, .int .i64 n, .bool false, .int .i64 0], .int .i64 0]), IsV (.agg #[.int .i64 P, .int .i64 n, .bool false, .int .i64 0]), IsV (.int .i64 0), BoxV 112 4 w.heap.size, fun _ _ => True, IsV (.int .i64 0)] : List (Value → World → Prop)).getD j fun _ _ => True) rfl hGs (fun v w h => h) ?_
      refine owes_vD (Go.Op.call { callee := Go.Callee.value (Go.Operand.func 65), args := #[Go.Operand.tmp 32], argTypes := #[62] }) 113 [9] (by kernel_rfl) (by kernel_rfl) (by kernel_rfl) rfl fun vals w1 ρ hG hF hρ hcst hfun => ?_
      have e32 : ρ (.tmp 32) = .int .u64 (U64 x) := ((hρ 32).trans (slotJ [9] (by rw [hsz]; decide) (by kernel_rfl))).trans (hF 9 (by decide))
      clear hρ hF hGs hcst sl0 sl3 sl5 fin
      exact opv_enter (by go_simp <;> rfl) (of_ret (hp.out w1))
    · refine OwesG.mk2 (D := Gw) (F' := fun j => ([IsV (.pointer (some ⟨R, 0, none⟩)), IsV (.pointer (some ⟨R, 0, none⟩)), IsV (.pointer (some ⟨R, 0, none⟩)), IsV (.slice A L c), IsV (.slice B N cl), IsV (.int .i64 (i : Int)), IsV (.pointer (some (ad2.add i))), IsV (.int .i64 (a : Int)), IsV (.pointer (some (ad.add a))), IsV (.int .u64 (U64 x)), IsV (.tuple #[.agg #[.int .i64 P, .int .i64 n, .bool false, .int .i64 0], .int .i64 0]), IsV (.tuple #[.agg #[.int .i64 P, .int .i64 n, .bool false, .int .i64 0], .int .i64 0]), IsV (.agg #[.int .i64 P, .int .i64 n, .bool false, .int .i64 0]), IsV (.int .i64 0), BoxV 112 4 w.heap.size, fun _ _ => True, IsV (.int .i64 0)] : List (Value → World → Prop)).getD j fun _ _ => True) rfl hGs (fun v w h => h) ?_
      exact owes_mvjD gw_self 10 33 (by kernel_rfl) (by kernel_rfl) (by kernel_rfl) (by kernel_rfl) (by rw [hsz]; decide) (fun v w h => h)
    · refine OwesG.mk2 (D := Gw) (F' := fun j => ([IsV (.pointer (some ⟨R, 0, none⟩)), IsV (.pointer (some ⟨R, 0, none⟩)), IsV (.pointer (some ⟨R, 0, none⟩)), IsV (.slice A L c), IsV (.slice B N cl), IsV (.int .i64 (i : Int)), IsV (.pointer (some (ad2.add i))), IsV (.int .i64 (a : Int)), IsV (.pointer (some (ad.add a))), IsV (.int .u64 (U64 x)), IsV (.tuple #[.agg #[.int .i64 P, .int .i64 n, .bool false, .int .i64 0], .int .i64 0]), IsV (.tuple #[.agg #[.int .i64 P, .int .i64 n, .bool false, .int .i64 0], .int .i64 0]), IsV (.agg #[.int .i64 P, .int .i64 n, .bool false, .int .i64 0]), IsV (.int .i64 0), BoxV 112 4 w.heap.size, fun _ _ => True, IsV (.int .i64 0)] : List (Value → World → Prop)).getD j fun _ _ => True) rfl hGs (fun v w h => h) ?_
      refine owes_vD (Go.Op.extract (Go.Operand.tmp 22) 0) 112 [11] (by kernel_rfl) (by kernel_rfl) (by kernel_rfl) rfl fun vals w1 ρ hG hF hρ hcst hfun => ?_
      have e22 : ρ (.tmp 22) = .tuple #[.agg #[.int .i64 P, .int .i64 n, .bool false, .int .i64 0], .int .i64 0] := ((hρ 22).trans (slotJ [11] (by rw [hsz]; decide) (by kernel_rfl))).trans (hF 11 (by decide))
      clear hρ hF hGs hcst hfun sl0 sl3 sl5 fin
      exact opv_val (by go_simp <;> rfl) ⟨gw_self _, rfl⟩
    · refine OwesG.mk2 (D := Gw) (F' := fun j => ([IsV (.pointer (some ⟨R, 0, none⟩)), IsV (.pointer (some ⟨R, 0, none⟩)), IsV (.pointer (some ⟨R, 0, none⟩)), IsV (.slice A L c), IsV (.slice B N cl), IsV (.int .i64 (i : Int)), IsV (.pointer (some (ad2.add i))), IsV (.int .i64 (a : Int)), IsV (.pointer (some (ad.add a))), IsV (.int .u64 (U64 x)), IsV (.tuple #[.agg #[.int .i64 P, .int .i64 n, .bool false, .int .i64 0], .int .i64 0]), IsV (.tuple #[.agg #[.int .i64 P, .int .i64 n, .bool false, .int .i64 0], .int .i64 0]), IsV (.agg #[.int .i64 P, .int .i64 n, .bool false, .int .i64 0]), IsV (.int .i64 0), BoxV 112 4 w.heap.size, fun _ _ => True, IsV (.int .i64 0)] : List (Value → World → Prop)).getD j fun _ _ => True) rfl hGs (fun v w h => h) ?_
      refine owes_vD (Go.Op.extract (Go.Operand.tmp 22) 1) 3 [11] (by kernel_rfl) (by kernel_rfl) (by kernel_rfl) rfl fun vals w1 ρ hG hF hρ hcst hfun => ?_
      have e22 : ρ (.tmp 22) = .tuple #[.agg #[.int .i64 P, .int .i64 n, .bool false, .int .i64 0], .int .i64 0] := ((hρ 22).trans (slotJ [11] (by rw [hsz]; decide) (by kernel_rfl))).trans (hF 11 (by decide))
      clear hρ hF hGs hcst hfun sl0 sl3 sl5 fin
      exact opv_val (by go_simp <;> rfl) ⟨gw_self _, rfl⟩
    · refine OwesG.mk2 (D := Gw) (F' := fun j => ([IsV (.pointer (some ⟨R, 0, none⟩)), IsV (.pointer (some ⟨R, 0, none⟩)), IsV (.pointer (some ⟨R, 0, none⟩)), IsV (.slice A L c), IsV (.slice B N cl), IsV (.int .i64 (i : Int)), IsV (.pointer (some (ad2.add i))), IsV (.int .i64 (a : Int)), IsV (.pointer (some (ad.add a))), IsV (.int .u64 (U64 x)), IsV (.tuple #[.agg #[.int .i64 P, .int .i64 n, .bool false, .int .i64 0], .int .i64 0]), IsV (.tuple #[.agg #[.int .i64 P, .int .i64 n, .bool false, .int .i64 0], .int .i64 0]), IsV (.agg #[.int .i64 P, .int .i64 n, .bool false, .int .i64 0]), IsV (.int .i64 0), BoxV 112 4 w.heap.size, fun _ _ => True, IsV (.int .i64 0)] : List (Value → World → Prop)).getD j fun _ _ => True) rfl hGs (fun v w h => h) ?_
      refine owes_vD (Go.Op.alloc 112) 0 [] (by kernel_rfl) (by kernel_rfl) (by kernel_rfl) rfl fun vals w1 ρ hG hF hρ hcst hfun => ?_
      clear hρ hF hGs hcst hfun sl0 sl3 sl5 fin
      exact opv_val (by go_simp <;> rfl) ⟨Gw.alloc _ _, ⟨_, _, rfl, hG.size, rfl, Bk.new _ _ _⟩⟩
    · exact owes_box (type := 0) (tp := 6) (tv := 34) (jp := 14) (jv := 12) (cs := #[.int .i64 P, .int .i64 n, .bool false, .int .i64 0]) (by kernel_rfl) (by kernel_rfl) (by kernel_rfl) (by kernel_rfl) (by kernel_rfl) (by kernel_rfl) (by rw [hsz]; decide) (by rw [hsz]; decide) (by decide) rfl rfl rfl (by kernel_rfl) rfl (by simp [Value.oneCell']) (fun _ _ h => h) (fun _ _ h => h) (fun _ _ h => h)
    · refine OwesG.mk2 (D := Gw) (F' := fun j => ([IsV (.pointer (some ⟨R, 0, none⟩)), IsV (.pointer (some ⟨R, 0, none⟩)), IsV (.pointer (some ⟨R, 0, none⟩)), IsV (.slice A L c), IsV (.slice B N cl), IsV (.int .i64 (i : Int)), IsV (.pointer (some (ad2.add i))), IsV (.int .i64 (a : Int)), IsV (.pointer (some (ad.add a))), IsV (.int .u64 (U64 x)), IsV (.tuple #[.agg #[.int .i64 P, .int .i64 n, .bool false, .int .i64 0], .int .i64 0]), IsV (.tuple #[.agg #[.int .i64 P, .int .i64 n, .bool false, .int .i64 0], .int .i64 0]), IsV (.agg #[.int .i64 P, .int .i64 n, .bool false, .int .i64 0]), IsV (.int .i64 0), BoxV 112 4 w.heap.size, fun _ _ => True, IsV (.int .i64 0)] : List (Value → World → Prop)).getD j fun _ _ => True) rfl hGs (fun v w h => h) ?_
      exact owes_mvjD gw_self 13 35 (by kernel_rfl) (by kernel_rfl) (by kernel_rfl) (by kernel_rfl) (by rw [hsz]; decide) (fun v w h => h)
  · intro vals w1 hG hF
    exact fin vals w1 hG (hF 15 (by decide +kernel)) (hF 16 (by decide +kernel))
theorem wellN_no {ws : List (BitVec 64)} {l : List Nat} {a k : Nat} {R : Int} (hR : R = if l.all (wellN ws l) = true then 0 else 2) (ha : a ∈ l) (hk : k < P0 (ws.getD a 0#64)) (h : ptrN ws l a k = false) : R = 2 := by
  rw [hR, if_neg (all_no ha ?_)]
  unfold wellN
  rw [Bool.and_eq_false_iff]
  left
  cases h2 : (List.range (P0 (ws.getD a 0#64))).all (ptrN ws l a) with
  | false => rfl
  | true =>
    have := List.all_eq_true.1 h2 k (List.mem_range.2 hk)
    rw [h] at this; cases this
theorem wellN_np {ws : List (BitVec 64)} {l : List Nat} {a : Nat} {R : Int} (hR : R = if l.all (wellN ws l) = true then 0 else 2) (ha : a ∈ l) (h : padN ws a = false) : R = 2 := by
  rw [hR, if_neg (all_no ha ?_)]
  unfold wellN
  rw [h, Bool.and_false]
set_option maxHeartbeats 4000000
theorem rwell_c (w : World) (s : Nat) (A : Option Addr) (c : Nat) (ws : List (BitVec 64)) (b t e : Nat) (p : RefAt w s A c ws b t e) (hbt : b ≤ t) (htw : t ≤ ws.length) (hl : ws.length ≤ 8192) :
    Calls Try.prog 34 #[.pointer (some ⟨s, 0, none⟩)] w (RetP (.int .i64 (wellE ws b t)) w) := by
  have HOb := Lib.hid (robjects_c w s A c ws b t e p hbt htw (by omega))
  obtain ⟨R, hR⟩ : ∃ R, R = wellE ws b t := ⟨_, rfl⟩
  rw [← hR]
  have HR := Lib.hid hR
  have HP := Lib.hid p
  have HL := Lib.hid hl
  have HT := Lib.hid htw
  obtain ⟨N0, hN0⟩ : ∃ N, N = ws.length := ⟨_, rfl⟩
  have HN0 := Lib.hid hN0
  clear hR p hl hbt htw hN0
  cases ho : objF ws t (t + 1) b with
  | none =>
    rw [ho] at HOb
    have HOb2 := Lib.hid (show Calls Try.prog 64 #[.pointer (some ⟨s, 0, none⟩)] w (RetP (.tuple #[.slice none 0 0, .bool false]) w) from HOb.out)
    obtain rfl : R = 2 := by rw [HR.out]; exact well_none ho
    clear HOb ho HR
    go_enter Try.func34, Try.ntmps34
    go_wp2_with fail
    refine Calls.mono HOb2.out ?_
    rintro r w2 ⟨rfl, b2⟩
    have HB2 := Lib.hid b2
    clear b2
    go_wp2_with fail
    go_ret
    exact ⟨rfl, HB2.out⟩
  | some l =>
    rw [ho] at HOb
    have HOb2 := Lib.hid (show Calls Try.prog 64 #[.pointer (some ⟨s, 0, none⟩)] w (fun e w' => ∃ A c, e = .returned (.tuple #[.slice A l.length c, .bool true]) ∧ l.length ≤ c ∧ Ow iN 3 w' w.heap.size (.slice A l.length c) l ∧ Below w.heap.size w w') from HOb.out)
    have HRl := Lib.hid (show R = if l.all (wellN ws l) = true then 0 else 2 from by rw [HR.out]; exact well_some ho)
    have HMem := Lib.hid (objF_mem _ _ _ ho)
    have hlen := objF_len _ _ _ ho
    obtain ⟨N, hN⟩ : ∃ N, N = l.length := ⟨_, rfl⟩
    have qN : (N : Int) ≤ 8193 := by have := HT.out; have := HL.out; omega
    have HN := Lib.hid hN
    clear HOb ho HR hlen hN
    go_enter Try.func34, Try.ntmps34
    go_wp2_with fail
    refine Calls.mono HOb2.out ?_
    rintro r w2 ⟨B, cl, rfl, hc, ho, b2⟩
    have HB2 := Lib.hid b2
    have HRd := Lib.hid ho.rd
    rw [← HN.out]
    clear hc ho b2 HOb2
    go_wp2_with fail
    go_loopw [5] (fun i W => ∃ k : Nat, i = .int .i64 k ∧ k ≤ N ∧ Hid ((l.take k).all (wellN ws l) = true) ∧ Hid (Below w2.heap.size w2 W)) (fun i _ => N - (Go.RowKit.intOf i).toNat)
    case atStart => exact ⟨0, rfl, Nat.zero_le _, Lib.hid rfl, Lib.hid (Below.refl _ _)⟩
    case round =>
      obtain ⟨k, rfl, hk, hW, hB⟩ := hrel
      by_cases hlt : k < N
      · have hkl : k < l.length := by rw [← HN.out]; exact hlt
        obtain ⟨a, ha⟩ : ∃ a, a = l[k] := ⟨_, rfl⟩
        have ham : a ∈ l := by rw [ha]; exact List.getElem_mem _
        obtain ⟨hab, hat, hag⟩ := HMem.out a ham
        obtain ⟨ad2, rfl, hb2, hc⟩ := (HRd.out.below hB.out) k hkl
        rw [← ha] at hc
        unfold iN at hc
        have haN : a < N0 := by have := HT.out; have := HN0.out; omega
        have hp0 := HP.out.below (HB2.out.trans (hB.out.mono HB2.out.size))
        obtain ⟨d0, _⟩ := hp0.four
        rw [← HN0.out] at d0
        obtain ⟨ad, hA, hb3, hcw⟩ := hp0.rd a (by rw [← HN0.out]; exact haN)
        have hxx : u64v ws[a] = .int .u64 (U64 (ws.getD a 0#64)) := by simp [List.getD, (by rw [← HN0.out]; exact haN : a < ws.length), u64v]
        rw [hxx] at hcw
        obtain ⟨hun, hP64, hB1024, hsz, hsh, hroom⟩ := head_of hag
        have HUn := Lib.hid (fun W => hun ▸ runpack_c (ws.getD a 0#64) W)
        have HTk := Lib.hid (show l.take (k + 1) = l.take k ++ [a] from by rw [List.take_succ_eq_append_getElem hkl, ha])
        have HWp := Lib.hid (fun j (hj : j < P0 (ws.getD a 0#64)) (h : ptrN ws l a j = false) => wellN_no HRl.out ham hj h)
        have HWq := Lib.hid (fun (h : padN ws a = false) => wellN_np HRl.out ham h)
        have hpe : padB ws (8 * (a + 1 + P0 (ws.getD a 0#64)) + B0 (ws.getD a 0#64)) (8 * (a + szX (ws.getD a 0#64)) - (8 * (a + 1 + P0 (ws.getD a 0#64)) + B0 (ws.getD a 0#64))) = padN ws a := rfl
        have HPd := Lib.hid (fun W (hr : RefAt W s A c ws b t e) => hpe ▸ rpad_c W s A c ws b t e hr (by have := HL.out; omega) a (P0 (ws.getD a 0#64)) (B0 (ws.getD a 0#64)) (szX (ws.getD a 0#64)) hP64 hB1024 hsh (by omega) (by have := HT.out; omega) (by omega))
        have HPt := Lib.hid (fun W (hr : Rd iN W W.heap.size (some ad2) l) x => HN.out ▸ points_c W (some ad2) cl l hr (by rw [← HN.out]; omega) (fun y hy => by have := (HMem.out y hy).2.1; have := HT.out; have := HL.out; omega) x)
        have HWn : wellN ws l a = ((List.range (P0 (ws.getD a 0#64))).all (ptrN ws l a) && padN ws a) := rfl
        have hsz2 : a + 1 + P0 (ws.getD a 0#64) ≤ N0 := by rw [HN0.out]; have := HT.out; omega
        obtain ⟨x, hx⟩ : ∃ x, x = ws.getD a 0#64 := ⟨_, rfl⟩
        rw [← hx] at hcw HUn HWp HPd HWn hP64 hsz2
        obtain ⟨P, hP'⟩ : ∃ P, P = P0 x := ⟨_, rfl⟩
        obtain ⟨n, hn'⟩ : ∃ P, P = B0 x := ⟨_, rfl⟩
        rw [← hP'] at HUn HWp HPd HWn hP64 hsz2
        rw [← hn'] at HUn HPd
        have HWn2 := Lib.hid (And.intro HWn ham)
        have q0 : (0 : Int) ≤ (k : Int) := by omega
        have q1 : (k : Int) < (N : Int) := by omega
        have q2 : (0 : Int) ≤ (a : Int) := by omega
        have q6 : (a : Int) < (N0 : Int) := by omega
        have qP : (P : Int) ≤ 64 := by omega
        have qs : (a : Int) + 1 + (P : Int) ≤ (N0 : Int) := by omega
        have qn0 : (N0 : Int) ≤ 8192 := by have := HL.out; have := HN0.out; omega
        have hR : s < wr.heap.size := hp0.blk.lt
        have hlt1 : (ad2.add k).block < wr.heap.size := by rw [add_block]; exact Nat.lt_of_lt_of_le hb2 hB.out.size
        have hlt2 : (ad.add a).block < wr.heap.size := by rw [add_block]; exact hb3
        have HC0 := Lib.hid (And.intro hp0 (And.intro hc (And.intro hA (And.intro hb2 hb3))))
        clear ha hab hat hag hun hsz hsh hroom hpe HWn hP64 hB1024 hsz2 hx hP' hn' hxx haN ham hkl hp0
        go_wp2_with fail
        refine rw7 _ _ _ s a k N A (some ad2) N0 c cl x (P : Int) (n : Int) hR ad ad2 hA rfl d0 hlt1 hlt2 hc q0 q1 q2 q6 hcw HUn rfl rfl rfl rfl ?_
        intro vals w3 hG hbx h7
        obtain ⟨hk3, ek, hk3B, hbk⟩ := hbx
        unfold IsV at h7
        simp only [putO, Act.put, List.setIfInBounds_toArray, List.set_cons_zero, List.set_cons_succ, ek, h7]
        have H3 := Lib.hid (And.intro hbk (And.intro (hB.out.trans (hG.mono hB.out.size)) hG))
        clear hG h7 ek hbk hc hcw d0 hlt1 hlt2 hR HUn
        go_wp2_with fail
        go_loopw [8] (fun i W => ∃ j : Nat, i = .int .i64 j ∧ j ≤ P ∧ Hid ((List.range j).all (ptrN ws l a) = true) ∧ Hid (Below w3.heap.size w3 W)) (fun i _ => P - (Go.RowKit.intOf i).toNat)
        case atStart => exact ⟨0, rfl, Nat.zero_le _, Lib.hid rfl, Lib.hid (Below.refl _ _)⟩
        case round =>
          clear hlt hk
          obtain ⟨j, rfl, hj, hA2, hB3⟩ := hrel
          have hk4 := H3.out.1.below hB3.out H3.out.1.lt
          obtain ⟨k0, k1, k2, k3⟩ := hk4.four
          have hklt := hk4.lt
          have hgr := H3.out.2.2.trans (hB3.out.mono H3.out.2.2.size)
          have hp0 := HC0.out.1.below hgr
          obtain ⟨d0, _⟩ := hp0.four
          rw [← HN0.out] at d0
          have hRs : s < wr.heap.size := hp0.blk.lt
          have HBw := Lib.hid (H3.out.2.1.trans (hB3.out.mono H3.out.2.1.size))
          have hRl := Lib.hid ((HRd.out.below HBw.out).more HBw.out.size)
          have hcc : wr.cell? (ad2.add k) = some (.int .i64 (a : Int)) := (hgr.cell (p := ad2.add k) (by rw [add_block]; have := HC0.out.2.2.2.1; have := hB.out.size; omega)).trans HC0.out.2.1
          have hlt1 : (ad2.add k).block < wr.heap.size := by rw [add_block]; have := HC0.out.2.2.2.1; have := HBw.out.size; omega
          by_cases hjt : j < P
          · have hq : a + 1 + j < N0 := by omega
            obtain ⟨q, hqe⟩ : ∃ q, q = a + 1 + j := ⟨_, rfl⟩
            have hqw : q < ws.length := by rw [← HN0.out, hqe]; exact hq
            obtain ⟨ad', hA', hb4, hcy⟩ := hp0.rd q hqw
            have hadd : ad' = ad := by have := HC0.out.2.2.1; rw [hA'] at this; injection this
            subst hadd
            obtain ⟨y, hy⟩ : ∃ y, y = ws.getD q 0#64 := ⟨_, rfl⟩
            have hxx : u64v ws[q] = .int .u64 (U64 y) := by rw [hy]; simp [List.getD, hqw, u64v]
            rw [hxx] at hcy
            have hlt2 : (ad'.add q).block < wr.heap.size := by rw [add_block]; exact hb4
            have hpn : ptrN ws l a j = decide (y.toNat = 0 ∨ (1 ≤ y.toNat ∧ y.toNat - 1 ∈ l)) := by unfold ptrN; rw [hy, hqe]
            obtain ⟨r, hr⟩ : ∃ r, r = ptrN ws l a j := ⟨_, rfl⟩
            have HRg := Lib.hid (show (List.range (j + 1)).all (ptrN ws l a) = r from by rw [List.range_succ, List.all_append, hA2.out, hr]; simp)
            have HNo := Lib.hid (show r = false → R = 2 from fun h => HWp.out j hjt (by rw [← hr]; exact h))
            have HPc := Lib.hid (fun W (hb : Below wr.heap.size wr W) => (hr.trans hpn) ▸ HPt.out W ((hRl.out.below hb).more hb.size) y)
            have e7 : (a : Int) + 1 + (j : Int) = (q : Int) := by omega
            have e8 : (0 : Int) ≤ (q : Int) := by omega
            have e6 : (q : Int) < (N0 : Int) := by omega
            have e5 : (0 : Int) ≤ (j : Int) := by omega
            have e4 : (j : Int) ≤ 100 := by omega
            have e3 : (j : Int) < (P : Int) := by omega
            have e9 : (a : Int) ≤ 100000 := by omega
            clear hy hpn hxx hqw hqe hq hp0 hA2 hr hk4 hgr
            go_wp2_with fail
            refine rw11 _ _ _ s a j q k N A (some ad2) N0 c cl 0 0 0 0 r y hRs ad' ad2 hA rfl d0 hlt1 hlt2 hcc q0 q1 q2 e9 e4 e5 e6 e7 e8 hcy HPc rfl rfl rfl rfl rfl ?_
            intro vals2 w5 hG5 h57
            unfold IsV at h57
            simp only [putD, Act.put, List.setIfInBounds_toArray, List.set_cons_zero, List.set_cons_succ, h57]
            have HB5 := Lib.hid (hB3.out.trans (hG5.mono hB3.out.size))
            clear hG5 h57 k0 k1 k2 k3 d0 hcc hcy hRs hlt1 hlt2
            cases r with
            | false =>
              obtain rfl : R = 2 := HNo.out rfl
              go_wp2_with fail
              go_ret
              exact ⟨rfl, HB2.out.trans ((H3.out.2.1.trans (HB5.out.mono H3.out.2.1.size)).mono HB2.out.size)⟩
            | true =>
              have HX := Lib.hid HRg.out
              clear HNo HRg HPc
              go_wp2_with fail
              go_roundw
              case rel => first | exact ⟨j + 1, by go_num, by omega, HX, HB5⟩ | ((repeat apply Exists.intro); refine ⟨?_, rfl⟩; exact ⟨j + 1, by go_num, by omega, HX, HB5⟩)
              case measure => simp [Go.RowKit.intOf]; omega
          · have hjP : P = j := by omega
            subst hjP
            have HPd2 := Lib.hid (fun W (hb : Below wr.heap.size wr W) => HPd.out W (hp0.below hb))
            obtain ⟨pd, hpd⟩ : ∃ pd, pd = padN ws a := ⟨_, rfl⟩
            rw [← hpd] at HPd2
            have HWv := Lib.hid (show wellN ws l a = pd from by rw [HWn2.out.1, hA2.out, hpd]; rfl)
            have HWq2 := Lib.hid (show pd = false → R = 2 from fun h => HWq.out (by rw [← hpd]; exact h))
            clear hpd hp0 hA2 hjt hj hk4 hgr d0
            go_wp2_with fail
            refine rw13 _ _ _ s a k N hk3 (some ad2) cl (P : Int) (n : Int) (!pd) ad2 rfl hlt1 hcc q0 q1 hklt k0 k1 k2 k3 HPd2 rfl rfl rfl rfl rfl ?_
            intro vals2 w5 hG5 h64
            unfold IsV at h64
            simp only [putD, Act.put, List.setIfInBounds_toArray, List.set_cons_zero, List.set_cons_succ, h64]
            have HB5 := Lib.hid (HBw.out.trans (hG5.mono HBw.out.size))
            clear hG5 h64 k0 k1 k2 k3 hcc hRs hlt1 hklt
            cases pd with
            | false =>
              obtain rfl : R = 2 := HWq2.out rfl
              go_wp2_with fail
              go_ret
              exact ⟨rfl, HB2.out.trans (HB5.out.mono HB2.out.size)⟩
            | true =>
              have HX := Lib.hid (show (l.take (k + 1)).all (wellN ws l) = true from by rw [HTk.out, List.all_append, hW.out]; simp [HWv.out])
              clear HWq2 HPd2 HWv
              go_wp2_with fail
              go_roundw
              case rel => first | exact ⟨k + 1, by go_num, by omega, HX, HB5⟩ | ((repeat apply Exists.intro); refine ⟨?_, rfl⟩; exact ⟨k + 1, by go_num, by omega, HX, HB5⟩)
              case measure => simp [Go.RowKit.intOf]; omega
      · have hkN : N = k := by omega
        have hR0 : R = 0 := by
          rw [HRl.out]
          rw [if_pos]
          have := hW.out
          rwa [← hkN, HN.out, List.take_length] at this
        subst hkN
        subst hR0
        clear hW hlt hk
        go_wp2_with fail
        go_ret
        exact ⟨rfl, HB2.out.trans (hB.out.mono HB2.out.size)⟩
end Go.Proofs.Ytbanbpphadgoiaa
/- The reference's Copy. Conditions: lengths. -/
namespace Go.Proofs.Ytbanbpphadgoiaa
set_option linter.unusedVariables false
set_option linter.unusedSimpArgs false
open Go.RowKit Go.Maps
theorem zV_oneR : ∀ x : Int, (zV x).oneCell' = true := fun _ => rfl
def RCopyR (w : World) (m n : Nat) (x : Option (List Nat × Cy)) (r : Ending) (w' : World) : Prop := match x with
  | some (qs, d) => ∃ (N : Nat) (A : Option Addr) (nc : Nat) (A2 : Option Addr) (c2 : Nat), r = .returned (.tuple #[.pointer (some ⟨N, 0, none⟩), .slice A2 n c2, .int .i64 0]) ∧ RefAt w' N A nc d.T 0 d.top m ∧ d.T.length = m ∧ qs.length = n ∧ Rd zV w' w'.heap.size A2 (backZ qs) ∧ Below w.heap.size w w'
  | none => RetP (.tuple #[.pointer none, .slice none 0 0, .int .i64 6]) w r w'
set_option maxHeartbeats 4000000
set_option maxRecDepth 100000
theorem rcopy_ok (w : World) (R : Nat) (A : Option Addr) (c : Nat) (ws : List (BitVec 64)) (b t e : Nat) (p : RefAt w R A c ws b t e) (hbt : b ≤ t) (htw : t ≤ ws.length) (hl : ws.length ≤ 8192) (l : List Nat) (ho : objF ws t (t + 1) b = some l) (hw : l.all (wellN ws l) = true) (A2 : Option Addr) (roots : List Int) (c2 : Nat) (hr : Rd zV w w.heap.size A2 roots) (hrl : roots.length ≤ 100000) (hra : roots.all (rootB l) = true) (m : Nat) (hm : m ≤ 8192) :
    Calls Try.prog 11 #[.pointer (some ⟨R, 0, none⟩), .slice A2 roots.length c2, .int .i64 m] w (RCopyR w m roots.length (copyC ws m (roots.map rootP))) := by
  have HWl := Lib.hid (rwell_c w R A c ws b t e p hbt htw hl)
  rw [well_some ho, if_pos hw] at HWl
  have HRt := Lib.hid (fun W (hb : Below w.heap.size w W) => rroots_c W R A c ws b t e (p.below hb) hbt htw hl l ho A2 roots c2 ((hr.below hb).more hb.size) hrl)
  rw [hra] at HRt
  have HSt := Lib.hid (fun W (hb : Below w.heap.size w W) => rstart_c W R A c ws b t e (p.below hb) m hm)
  have HH := Lib.hid (heap_of ho hw htw hl)
  obtain ⟨Z, hZ⟩ : ∃ Z, Z = copyC ws m (roots.map rootP) := ⟨_, rfl⟩
  rw [← hZ]
  have HZ := Lib.hid (show contC m ((roots.map rootP).drop 0) ⟨ws, List.replicate m 0#64, 0⟩ [] = Z by rw [hZ, copyC_cont]; rfl)
  have HRd := Lib.hid hr
  have HRa := Lib.hid (List.all_eq_true.1 hra)
  have HM8 := Lib.hid hm
  obtain ⟨n, hn⟩ : ∃ n, n = roots.length := ⟨_, rfl⟩
  have HN := Lib.hid hn
  rw [← hn] at HRt hrl ⊢
  have hn5 : (n : Int) ≤ 100000 := by omega
  have m0 : (0 : Int) ≤ (m : Int) := by omega
  have m8 : (m : Int) ≤ 8192 := by omega
  clear p hbt htw hl ho hw hr hra hm hZ hn hrl
  go_enter Try.func11, Try.ntmps11
  go_wp2_with fail
  refine Calls.mono HWl.out ?_
  rintro r w1 ⟨rfl, b1⟩
  have H1 := Lib.hid b1
  clear b1
  go_wp2_with fail
  refine Calls.mono (HRt.out w1 H1.out) ?_
  rintro r w2 ⟨rfl, b2⟩
  have H2 := Lib.hid (H1.out.trans (b2.mono H1.out.size))
  clear b2
  go_wp2_with fail
  refine Calls.mono (HSt.out w2 H2.out) ?_
  rintro r w3 ⟨X, N, q, rfl, hrc, b3⟩
  have HS : Hid (∃ xs : List Int, xs.length = 0 ∧ Ow zV 3 w3 w2.heap.size (.slice none 0 0) xs ∧ RtS (fun j => (Value.slice none 0 0).ownBlock = some j) w3 w2.heap.size X R N A c ws b t e l m Z ((roots.map rootP).drop 0) xs ∧ Below w2.heap.size w2 w3) := Lib.hid ⟨[], rfl, Ow.nil_ _ _ _ _, ⟨⟨ws, List.replicate m 0#64, 0⟩, false, ⟨_, m, _, _, [], by
      have h := hrc
      show RcAt _ _ _ _ _ _ _ _ _ _ _ _ _ _ _ (List.replicate m 0#64) 0 [] 0 false
      exact h, RelU.start HH.out m, inv_start HH.out HM8.out, by simp, fun k hk => by cases hk⟩, .inr ⟨rfl, [], [], rfl, rfl, fun _ h => (by cases h), HZ.out⟩⟩, b3⟩
  clear hrc b3
  go_wp2_with fail
  go_loopw [10, 11] (fun o i W => ∃ k : Nat, i = .int .i64 k ∧ k ≤ n ∧ Hid (∃ xs : List Int, xs.length = k ∧ Ow zV 3 W w2.heap.size o xs ∧ RtS (fun j => o.ownBlock = some j) W w2.heap.size X R N A c ws b t e l m Z ((roots.map rootP).drop k) xs ∧ Below w2.heap.size w2 W)) (fun _ i _ => n - (Go.RowKit.intOf i).toNat)
  case atStart => exact ⟨0, rfl, Nat.zero_le _, HS⟩
  case round =>
    obtain ⟨k, rfl, hk, hS⟩ := hrel
    clear HS
    obtain ⟨xs, e1, e2, e3, e4⟩ := hS.out
    have p0 : (0 : Int) ≤ (k : Int) := by omega
    by_cases hlt : k < n
    · have p1 : (k : Int) < (n : Int) := by omega
      have hkl : k < roots.length := by rw [← HN.out]; exact hlt
      obtain ⟨y, hy⟩ : ∃ y, y = roots[k] := ⟨_, rfl⟩
      obtain ⟨ad, rfl, hlt2, hc⟩ := (HRd.out.below (H2.out.trans (e4.mono H2.out.size))) k hkl
      rw [← hy] at hc
      unfold zV at hc
      have hdr : (roots.map rootP).drop k = rootP y :: (roots.map rootP).drop (k + 1) := by
        rw [List.drop_eq_getElem_cons (by rw [List.length_map]; exact hkl), List.getElem_map, hy]
      rw [hdr] at e3
      have HMv := Lib.hid (rroot_step wr HH.out y _ e3 (HRa.out y (by rw [hy]; exact List.getElem_mem _)))
      have HE := Lib.hid (And.intro e1 (And.intro e2 e4))
      clear hy hdr e1 e2 e3 e4 hS hkl
      go_wp2_with fail
      refine Calls.mono HMv.out ?_
      rintro r w6 ⟨v, rfl, hs6, b6, k6⟩
      have ho6 := k6.ow HE.out.2.1 (fun j hj h => h hj)
      have H6 := Lib.hid (And.intro hs6 (And.intro b6 ho6))
      have HLn := Lib.hid (show xs.length + [v].length ≤ 4294967296 by rw [HE.out.1]; simp; omega)
      have HBs := Lib.hid (show w2.heap.size ≤ w6.heap.size by have := HE.out.2.2.size; have := b6.size; omega)
      clear hs6 b6 k6 ho6
      go_wp2_with (at_builtin; refine wp_app oneI zV_oneR rfl (.tmp 34) (.tmp 41) rfl w2.heap.size _ xs rfl (H6.out.2.2.alloc _) (some ⟨w6.heap.size, 0, none⟩) 1 1 [v] rfl rfl (w6.heap.size + 1) (rd1_new rfl) HLn.out (by decide) (Nat.le_trans HBs.out (Gw.alloc w6 _).size) ?_; intro v8 w8 ho8 hb8 hg8 hv8; have H8 := Lib.hid (And.intro ho8 (And.intro hg8 hv8)); clear ho8 hb8 hg8 hv8)
      have hst : RtS (fun j => v8.ownBlock = some j) w8 w2.heap.size X R N A c ws b t e l m Z ((roots.map rootP).drop (k + 1)) (xs ++ [v]) ∧ Below w2.heap.size w6 w8 := by
        obtain ⟨d, full, s1, s2⟩ := H6.out.1
        have hgr := s1.grow (fun j hj => (HE.out.2.1.lt j hj).1) H8.out.2.1 H8.out.2.2 H8.out.1
        exact ⟨⟨d, full, hgr.1, s2⟩, hgr.2⟩
      have HNx : Hid (∃ xs : List Int, xs.length = k + 1 ∧ Ow zV 3 w8 w2.heap.size v8 xs ∧ RtS (fun j => v8.ownBlock = some j) w8 w2.heap.size X R N A c ws b t e l m Z ((roots.map rootP).drop (k + 1)) xs ∧ Below w2.heap.size w2 w8) := Lib.hid ⟨xs ++ [v], by rw [List.length_append, HE.out.1]; rfl, H8.out.1, hst.1, (HE.out.2.2.trans H6.out.2.1).trans hst.2⟩
      clear hst hc
      go_roundw
      case rel => first | exact ⟨k + 1, by go_num, by omega, HNx⟩ | ((repeat apply Exists.intro); refine ⟨?_, rfl⟩; exact ⟨k + 1, by go_num, by omega, HNx⟩)
      case measure => simp [Go.RowKit.intOf]; omega
    · have p1 : ¬ (k : Int) < (n : Int) := by omega
      have hkn : k = n := by omega
      rw [hkn, List.drop_of_length_le (by rw [List.length_map, HN.out]; exact Nat.le_refl _)] at e3
      obtain ⟨full, e3'⟩ := e3.go
      obtain ⟨w5, hw5⟩ : ∃ w5, w5 = wr := ⟨_, rfl⟩
      rw [← hw5] at e3' e2 e4 ⊢
      have HS2 : Hid (∃ full, GoS full (fun j => u10.ownBlock = some j) w5 w2.heap.size X R N A c ws b t e l m Z (m + 1) xs ∧ Ow zV 3 w5 w2.heap.size u10 xs ∧ Below w2.heap.size w2 w5) := Lib.hid ⟨full, e3', e2, e4⟩
      have HXl := Lib.hid (show xs.length = n by omega)
      clear e1 e2 e3 e3' e4 hS hw5 hkn
      go_wp2_with fail
      go_loopg [44] (m + 1) (fun gk x W => Hid (∃ full, GoS full (fun j => u10.ownBlock = some j) W w2.heap.size X R N A c ws b t e l m Z gk xs ∧ Ow zV 3 W w2.heap.size u10 xs ∧ Below w2.heap.size w2 W))
      case atStart => exact HS2
      case round =>
        have hS := hrel
        clear hrel HS2
        obtain ⟨full, e1, e2, e3⟩ := hS.out
        have HOn := Lib.hid (rone_step wr HH.out HM8.out full gk e1 (fun k hk => (e2.lt k hk).2))
        have HE := Lib.hid (And.intro e2 e3)
        clear e1 e2 e3 hS
        go_wp2_with fail
        refine Calls.mono HOn.out ?_
        rintro r w6 ⟨bl, rfl, b6, k6, ht, hf⟩
        have ho6 := k6.ow HE.out.1 (fun j hj h => h hj)
        have H6 := Lib.hid (And.intro (HE.out.2.trans b6) ho6)
        cases bl with
        | true =>
          obtain ⟨g, rfl, hg⟩ := ht rfl
          obtain ⟨dd, ss, hg1, _⟩ := id hg
          obtain ⟨_, _, hX6, _, _, _, x5, _⟩ := hg1.cells
          have HN6 : Hid (∃ full, GoS full (fun j => u10.ownBlock = some j) w6 w2.heap.size X R N A c ws b t e l m Z g xs ∧ Ow zV 3 w6 w2.heap.size u10 xs ∧ Below w2.heap.size w2 w6) := Lib.hid ⟨false, hg, H6.out.2, H6.out.1⟩
          clear hg hg1 b6 k6 ht hf ho6
          go_wp2_with fail
          go_roundg g
          case measure => omega
          case rel => exact HN6
        | false =>
          obtain ⟨d, s, fu, hs, hz⟩ := hf rfl
          obtain ⟨nA, nc, hX6, _, x1, _, x5, _⟩ := hs.cells
          have HRs := Lib.hid hs
          have hw6 := Lib.hid (H2.out.trans (H6.out.1.mono H2.out.size))
          rcases hz with ⟨rfl, hz⟩ | ⟨rfl, qs, hq, hz⟩
          · have HZ6 := Lib.hid hz
            clear b6 k6 ht hf ho6 hs hz
            go_wp2_with fail
            go_ret3
            rw [HZ6.out]
            exact ⟨rfl, hw6.out⟩
          · have HZ6 := Lib.hid (And.intro hz hq)
            obtain ⟨A4, c4, e4, _⟩ := ho6.form
            have hlen : qs.length = n := by rw [← HXl.out, hq]; simp [backZ]
            have HL4 := Lib.hid (And.intro hlen (And.intro e4 ho6))
            clear b6 k6 ht hf ho6 hs hz hq hlen e4
            go_wp2_with fail
            go_ret3
            rw [HZ6.out.1]
            obtain ⟨nA', nc', fv, tv, us, r1, _, _, r4, _⟩ := HRs.out
            have hn := r1.nw
            have hlx : xs.length = n := HXl.out
            have e4 := HL4.out.2.1
            rw [hlx] at e4
            refine ⟨N, nA', nc', A4, c4, (by rw [e4]; rfl), ⟨?_, r1.row.rd⟩, r4, HL4.out.1, ?_, hw6.out⟩
            · rw [r4] at hn ⊢
              exact hn
            · have h := HL4.out.2.2
              rw [HL4.out.2.1, HZ6.out.2] at h
              exact h.rd
end Go.Proofs.Ytbanbpphadgoiaa
/- A region whose operations are loads and reckonings, which float, and a row of others (calls, appends, stores) that wait for each other: the floating ones have known values, the row is straight code. No conditions. -/
namespace Go.Proofs.Ytbanbpphadgoiaa
set_option linter.unusedVariables false
set_option linter.unusedSimpArgs false
open Go.RowKit
section
variable {P : Program} {ops : Array Oper} {Q : Exit → Act → World → Prop} {a0 : Act} {w0 : World}
/-- Operations one behind the other; W holds of each world between. -/
def SpineW (P : Program) (ops : Array Oper) (Q : Exit → Act → World → Prop) (W : World → Prop) : List Nat → Act → World → Prop
  | [], a, w => Q .normal a w
  | i :: is, a, w => ∃ o, ops[i]? = some o ∧ o.guard = none ∧ Oper.wp P o a w (fun a' w' => a'.defers = a.defers ∧ W w' ∧ SpineW P ops Q W is a' w') NoQ
def operandsOf (ops : Array Oper) (i : Nat) : List Tmp := match ops[i]? with
  | none => []
  | some o => o.op.operands.toList.filterMap fun | .tmp t => some t | _ => none
def chainB (ops : Array Oper) : List Nat → Bool
  | x :: y :: l => waitsB ops y x && chainB ops (y :: l)
  | _ => true
def slotsB (ops : Array Oper) (fl : List Nat) (j : Nat) : Bool := match dstOf ops j with
  | none => false
  | some d => slotB ops fl j d
def spineB (ops : Array Oper) (sp fl : List Nat) : Bool :=
  chainB ops sp && ((List.range ops.size).all fun i => sp.contains i || fl.contains i) && (fl.all fun j => !sp.contains j && decide (j < ops.size) && ((ops[j]?).bind (·.guard)).isNone && slotsB ops fl j) && (sp.all fun i => decide (i < ops.size)) && decide (sp.Nodup) &&
  (fl.all fun i => (operandsOf ops i).all fun t => (fl.any fun j => waitsB ops i j && dstOf ops j == some t) || ((fl.all fun j => dstOf ops j != some t) && sp.all fun j => dstOf ops j != some t || waitsB ops j i)) &&
  (sp.all fun i => (operandsOf ops i).all fun t => fl.all fun j => dstOf ops j != some t || waitsB ops i j)
theorem wp_two {o : Oper} {A a : Act} {w : World} {K K2 : Act → World → Prop} (he : execOp A.eval o = execOp a.eval o)
    (h : Oper.wp P o A w (fun a' w' => a'.defers = A.defers ∧ K a' w') NoQ) (hk : ∀ v w', K (A.put o.dst v) w' → K2 (a.put o.dst v) w') : Oper.wp P o a w K2 Q := by
  unfold Oper.wp at *
  rw [← he]
  generalize (execOp A.eval o).run P w = r at *
  cases r with
  | ok n w' =>
    cases n <;> simp only [Oper.upon] at h ⊢
    case value u => exact hk _ _ h.2
    case skip => exact hk _ _ h.2
    case defer d =>
      exfalso
      have := h.1
      cases hd : o.dst <;> simp [Act.put, hd] at this
    case enter f args =>
      refine Calls.mono h fun e w'' he => ?_
      cases e with
      | returned u => exact hk _ _ he.2
      | panicked c => exact he.elim
      | outgrown => obtain ⟨_, _, hf⟩ := he; exact hf.elim
    case row row args => exact Rows.mono h fun u w'' he => hk _ _ he.2
  | halt x w' =>
    cases x <;> simp only [Oper.upon] at h ⊢
    case panic u => exact h.elim
def SpineQ (df : List Deferred) (W : World → Prop) (next : Act → World → Prop) : Exit → Act → World → Prop
  | .normal, a, w => a.defers = df ∧ W w ∧ next a w
  | _, _, _ => False
theorem regB_plain {size : Nat} (h : regB ops size = true) {i : Nat} {o : Oper} (ho : ops[i]? = some o) : match o.op with | .defer _ => False | .select .. => False | _ => True := by
  unfold regB at h
  rw [List.all_eq_true] at h
  have h1 := h i (List.mem_range.2 (Array.getElem?_eq_some_iff.1 ho).1)
  rw [ho] at h1
  simp only [Bool.and_eq_true] at h1
  have h2 := h1.2
  revert h2
  cases o.op <;> simp
theorem chain_at {l : List Nat} : ∀ {d : List Nat} {x y : Nat}, chainB ops (d ++ x :: y :: l) = true → waitsB ops y x = true := by
  intro d
  induction d with
  | nil => intro x y h; unfold chainB at h; rw [List.nil_append] at h; simp only [Bool.and_eq_true] at h; exact h.1
  | cons z d ih =>
    intro x y h
    apply ih (x := x) (y := y)
    cases d with
    | nil => simp only [List.cons_append, List.nil_append, chainB, Bool.and_eq_true] at h ⊢; exact h.2
    | cons u d => simp only [List.cons_append, chainB, Bool.and_eq_true] at h ⊢; exact h.2
theorem region_spine {id : Nat} (sp fl : List Nat) (c : Nat → Value) (W : World → Prop) (hm : P.follows .mixedOrders = true) (hreg : regB ops a0.tmps.size = true) (hsp : spineB ops sp fl = true) (hW : W w0.drew)
    (hF : ∀ i ∈ fl, ∀ w, W w → ∃ o, ops[i]? = some o ∧ (execOp (putL ops c fl a0).eval o).run P w = .ok (.value (c i)) w)
    (fin : SpineW P ops Q W sp (putL ops c fl a0) w0.drew) : (Code.region id ops true).wp P Q a0 w0 := by
  unfold spineB at hsp
  simp only [Bool.and_eq_true, List.all_eq_true, List.mem_range, decide_eq_true_eq, Bool.or_eq_true, List.contains_iff_mem, Bool.not_eq_true', Bool.not_eq_eq_eq_not, Bool.not_true] at hsp
  obtain ⟨⟨⟨⟨⟨⟨hch, hcov⟩, hfl⟩, hspl⟩, hnd⟩, hfo⟩, hso⟩ := hsp
  have hflsp : ∀ j ∈ fl, j ∉ sp := fun j hj h => by
    have := (hfl j hj).1.1.1
    rw [List.contains_eq_mem] at this
    simp [h] at this
  have getT : ∀ (l : Array Bool) (k : Nat) (b c : Bool), k < l.size → l.getD k b = l.getD k c := by
    intro l k b c hk
    rw [Array.getD_eq_getD_getElem?, Array.getD_eq_getD_getElem?, Array.getElem?_eq_getElem hk]; rfl
  have hdst : ∀ i, i < ops.size → ∃ d, dstOf ops i = some d ∧ d < a0.tmps.size ∧ ∀ j, j < ops.size → j ≠ i → dstOf ops j ≠ some d := by
    intro i hi
    obtain ⟨o2, d, ho2, hd2, hdl, hdd, _⟩ := regB_at hreg hi
    exact ⟨d, by unfold dstOf; rw [ho2]; exact hd2, hdl, hdd⟩
  have hA0 : ∀ j ∈ fl, valAt ops (putL ops c fl a0) j = c j := by
    intro j hj
    obtain ⟨d, hd, hdl, _⟩ := hdst j (hfl j hj).1.1.2
    have hs := (hfl j hj).2
    unfold slotsB at hs
    rw [hd] at hs
    unfold valAt
    rw [hd]
    exact slotJ fl hdl hs
  have hout : ∀ t, (∀ j ∈ fl, dstOf ops j ≠ some t) → (putL ops c fl a0).tmps.getD t undef = a0.tmps.getD t undef := by
    intro t ht
    exact slotO fl (List.all_eq_true.2 fun k hk => by simpa using ht k hk)
  have main : ∀ (fuel : Nat) (listed : Array Bool) (a : Act) (w : World) (dn rest : List Nat) (A : Act), listed.size = ops.size →
      ((List.range ops.size).filter fun j => !listed.getD j true).length ≤ fuel →
      W w → SpineW P ops Q W rest A w → sp = dn ++ rest → (∀ i ∈ dn, listed.getD i true = true) → (∀ i ∈ rest, listed.getD i true = false) → a.defers = A.defers → a.tmps.size = A.tmps.size → A.tmps.size = a0.tmps.size →
      (∀ j ∈ fl, valAt ops A j = c j) → (∀ t, (∀ j ∈ dn, dstOf ops j ≠ some t) → (∀ j ∈ fl, dstOf ops j ≠ some t) → A.tmps.getD t undef = a0.tmps.getD t undef) → (∀ j ∈ dn, ∀ k, waitsB ops j k = true → listed.getD k true = true) →
      (∀ t, a.tmps.getD t undef = A.tmps.getD t undef ∨ ∃ j ∈ fl, listed.getD j true = false ∧ dstOf ops j = some t) →
      wpAny P .any ops Q fuel listed a w := by
    intro fuel
    have allUp : ∀ (listed : Array Bool), listed.size = ops.size → Region.ready .any ops listed = [] → ∀ j, j < ops.size → listed.getD j true = true := by
      intro listed hsz hr j
      induction j using Nat.strongRecOn with
      | ind j ih =>
        intro hj
        cases hl : listed.getD j true with
        | true => rfl
        | false =>
          exfalso
          obtain ⟨o, d, ho, _, _, _, he⟩ := regB_at hreg hj
          have : j ∈ Region.ready .any ops listed := mem_ready.2 ⟨hl, o, ho, fun e hem hb => by
            have hlt := he e hem hb
            have := ih e.on hlt (by omega)
            rw [Array.getD_eq_getD_getElem?] at this ⊢
            rw [Array.getElem?_eq_getElem (by omega)] at this ⊢
            exact this⟩
          rw [hr] at this
          cases this
    have done : ∀ (listed : Array Bool) (a : Act) (w : World) (dn rest : List Nat) (A : Act), (∀ j, j < ops.size → listed.getD j true = true) → SpineW P ops Q W rest A w → sp = dn ++ rest → (∀ i ∈ rest, listed.getD i true = false) →
        a.defers = A.defers → a.tmps.size = A.tmps.size → (∀ t, a.tmps.getD t undef = A.tmps.getD t undef ∨ ∃ j ∈ fl, listed.getD j true = false ∧ dstOf ops j = some t) → Q .normal a w := by
      intro listed a w dn rest A hall hS hdn hrest hd hs hrel
      cases rest with
      | cons i is =>
        have h1 := hrest i (.head _)
        rw [hall i (hspl i (by rw [hdn]; simp))] at h1
        cases h1
      | nil =>
        have h1 := putL_whole (ops := ops) A [] a hs hd (fun t => by
          rcases hrel t with h | ⟨j, hj, h1, _⟩
          · exact .inl h
          · rw [hall j (hfl j hj).1.1.2] at h1; cases h1)
        unfold putL at h1
        rw [h1]
        exact hS
    induction fuel with
    | zero =>
      intro listed a w dn rest A hsz hcnt hw hS hdn hdl hrest hd hs hs0 hv ho hC hrel
      have hall : ∀ j, j < ops.size → listed.getD j true = true := by
        intro j hj
        cases hl : listed.getD j true with
        | true => rfl
        | false =>
          have : j ∈ (List.range ops.size).filter fun j => !listed.getD j true := List.mem_filter.2 ⟨List.mem_range.2 hj, by simp only [hl]; rfl⟩
          rw [List.eq_nil_of_length_eq_zero (Nat.le_zero.1 hcnt)] at this
          cases this
      refine ⟨?_, done listed a w dn rest A hall hS hdn hrest hd hs hrel⟩
      apply List.eq_nil_iff_forall_not_mem.2
      intro j hj
      obtain ⟨h1, o, ho, _⟩ := mem_ready.1 hj
      have hlt : j < ops.size := (Array.getElem?_eq_some_iff.1 ho).1
      rw [hall j hlt] at h1
      cases h1
    | succ fuel ih =>
      intro listed a w dn rest A hsz hcnt hw hS hdn hdl hrest hd hs hs0 hv ho hC hrel
      refine ⟨fun hr => done listed a w dn rest A (allUp listed hsz hr) hS hdn hrest hd hs hrel, fun i hi => ?_⟩
      obtain ⟨hui, o, hoi, hall⟩ := mem_ready.1 hi
      have hlt : i < ops.size := (Array.getElem?_eq_some_iff.1 hoi).1
      have hlz : i < listed.size := by omega
      have hwt : ∀ j, waitsB ops i j = true → listed.getD j true = true := by
        intro j hj
        obtain ⟨o', ho', e, he, hb, rfl⟩ := waits_some hj
        rw [hoi] at ho'
        injection ho' with ho'
        subst ho'
        have h1 := hall e he hb
        rcases Nat.lt_or_ge e.on listed.size with hl | hl
        · rw [getT _ _ true false hl]
          exact h1
        · rw [Array.getD_eq_getD_getElem?, Array.getElem?_eq_none hl] at h1; cases h1
      have hset : ∀ j b, (listed.setIfInBounds i true).getD j b = if j = i then true else listed.getD j b := by
        intro j b
        rw [Array.getD_eq_getD_getElem?, Array.getD_eq_getD_getElem?, Array.getElem?_setIfInBounds]
        by_cases e : i = j
        · subst e; simp [hlz]
        · rw [if_neg e, if_neg (fun h => e h.symm)]
      have hcnt' : ((List.range ops.size).filter fun j => !(listed.setIfInBounds i true).getD j true).length ≤ fuel := by
        have := filter_less (p := fun j => !listed.getD j true) (q := fun j => !(listed.setIfInBounds i true).getD j true) (i := i) (l := List.range ops.size) (fun x hx => by
          rw [hset] at hx
          by_cases e : x = i
          · rw [if_pos e] at hx; cases hx
          · rw [if_neg e] at hx; exact hx) (List.mem_range.2 hlt) (by rw [hui]; rfl) (by rw [hset, if_pos rfl]; rfl)
        omega
      obtain ⟨d, hdo, hdlt, hdd⟩ := hdst i hlt
      have hops : operandsOf ops i = o.op.operands.toList.filterMap fun | .tmp t => some t | _ => none := by unfold operandsOf; rw [hoi]
      have hndf : match o.op with | .defer _ => False | .select .. => False | _ => True := regB_plain hreg hoi
      have hdo' : o.dst = some d := by unfold dstOf at hdo; rw [hoi] at hdo; exact hdo
      have hcong : ∀ B : Act, (∀ t ∈ operandsOf ops i, B.tmps.getD t undef = a.tmps.getD t undef) → execOp B.eval o = execOp a.eval o := by
        intro B hB
        refine execOp_congr o (fun cs b e => by rw [e] at hndf; exact hndf) fun x hx => ?_
        cases x with
        | tmp t => exact hB t (by rw [hops]; exact List.mem_filterMap.2 ⟨.tmp t, by simpa using hx, rfl⟩)
        | _ => rfl
      have hval : ∀ (B : Act) (v : Value), B.tmps.size = a0.tmps.size → valAt ops (B.put o.dst v) i = v := by
        intro B v hB
        unfold valAt
        rw [hdo, hdo']
        exact put_same _ _ _ (by rw [hB]; exact hdlt)
      by_cases hf1 : i ∈ fl
      · -- one that floats
        have hg := (hfl i hf1).1.2
        rw [hoi, Option.bind_some, Option.isNone_iff_eq_none] at hg
        obtain ⟨o3, ho3, hrun⟩ := hF i hf1 w hw
        rw [hoi] at ho3
        injection ho3 with ho3
        subst ho3
        have hA0a : ∀ t ∈ operandsOf ops i, (putL ops c fl a0).tmps.getD t undef = a.tmps.getD t undef := by
          intro t ht
          rcases hfo i hf1 t ht with h | h
          · rw [List.any_eq_true] at h
            obtain ⟨j, hj, h⟩ := h
            rw [Bool.and_eq_true, beq_iff_eq] at h
            have h1 := hA0 j hj
            have h2 := hv j hj
            unfold valAt at h1 h2
            rw [h.2] at h1 h2
            rcases hrel t with h3 | ⟨k, hk, h3, h4⟩
            · rw [h3]; exact h1.trans h2.symm
            · exfalso
              obtain ⟨dj, hdj, _, hdd2⟩ := hdst j (hfl j hj).1.1.2
              rw [h.2] at hdj
              injection hdj with hdj
              subst hdj
              have hkj : k = j := by
                apply Classical.byContradiction
                intro hne
                exact hdd2 k (hfl k hk).1.1.2 hne h4
              rw [hkj, hwt j h.1] at h3
              cases h3
          · have h' : ∀ j ∈ fl, dstOf ops j ≠ some t := fun j hj => by simpa using h.1 j hj
            rw [hout t h', ← ho t (fun j hj e => by
              rcases h.2 j (by rw [hdn]; exact List.mem_append_left _ hj) with h5 | h5
              · exact absurd e (by simpa using h5)
              · have := hC j hj i h5
                rw [hui] at this
                cases this) h']
            rcases hrel t with h3 | ⟨k, hk, _, h4⟩
            · exact h3.symm
            · exact absurd h4 (h' k hk)
        have hrun' : (execOp a.eval o).run P w = .ok (.value (c i)) w := by rw [← hcong _ hA0a]; exact hrun
        unfold wpOp
        rw [hoi]
        simp only [Region.wanted, hg, if_true]
        left
        unfold Oper.wp
        rw [hrun']
        simp only [Oper.upon]
        refine ih (listed.setIfInBounds i true) (a.put o.dst (c i)) w dn rest A (by simp [hsz]) hcnt' hw hS hdn (fun x hx => by rw [hset]; split; rfl; exact hdl x hx) ?_ ?_ (by rw [put_size, hs]) hs0 hv ho (fun j hj k hk => by rw [hset]; split; rfl; exact hC j hj k hk) ?_
        · intro x hx
          rw [hset, if_neg (fun e => hflsp i hf1 (by rw [hdn, ← e]; exact List.mem_append_right _ hx))]
          exact hrest x hx
        · rw [← hd]; cases o.dst <;> rfl
        · intro t
          by_cases e : dstOf ops i = some t
          · left
            have h2 := hv i hf1
            unfold valAt at h2
            rw [e] at h2
            rw [hdo] at e
            injection e with e
            subst e
            rw [hdo', put_same _ _ _ (by rw [hs, hs0]; exact hdlt)]
            exact h2.symm
          · rw [put_other _ _ _ _ (by rw [hdo', ← hdo]; exact e)]
            rcases hrel t with h3 | ⟨k, hk, h3, h4⟩
            · exact .inl h3
            · refine .inr ⟨k, hk, ?_, h4⟩
              rw [hset, if_neg (fun e2 => e (by rw [← e2]; exact h4))]
              exact h3
      · -- one of the row
        have hs1 : i ∈ sp := by
          rcases hcov i hlt with h | h
          · exact h
          · exact absurd h hf1
        have hhead : ∃ is, rest = i :: is := by
          have hmem : i ∈ dn ++ rest := by rw [← hdn]; exact hs1
          rcases List.mem_append.1 hmem with h | h
          · rw [hdl i h] at hui; cases hui
          · cases rest with
            | nil => cases h
            | cons x is =>
              by_cases e : i = x
              · exact ⟨is, by rw [e]⟩
              · exfalso
                have hmi : i ∈ is := by
                  rcases List.mem_cons.1 h with h | h
                  · exact absurd h e
                  · exact h
                obtain ⟨u, t, hut⟩ := List.append_of_mem hmi
                obtain ⟨pre, y, hy⟩ : ∃ pre y, x :: u = pre ++ [y] := ⟨(x :: u).dropLast, (x :: u).getLast (by simp), (List.dropLast_concat_getLast (by simp)).symm⟩
                have hsp2 : sp = (dn ++ pre) ++ y :: i :: t := by
                  rw [hdn, hut, ← List.cons_append, hy]
                  simp
                have hwy : waitsB ops i y = true := chain_at (d := dn ++ pre) (l := t) (by rw [← hsp2]; exact hch)
                have hyr : y ∈ x :: is := by
                  rw [hut, ← List.cons_append, hy]
                  simp
                have := hrest y hyr
                rw [hwt y hwy] at this
                cases this
        obtain ⟨is, rfl⟩ := hhead
        obtain ⟨o3, ho3, hg, hwp⟩ := hS
        rw [hoi] at ho3
        injection ho3 with ho3
        subst ho3
        have hAa : ∀ t ∈ operandsOf ops i, A.tmps.getD t undef = a.tmps.getD t undef := by
          intro t ht
          rcases hrel t with h3 | ⟨k, hk, h3, h4⟩
          · exact h3.symm
          · exfalso
            rcases hso i hs1 t ht k hk with h | h
            · exact absurd h4 (by simpa using h)
            · rw [hwt k h] at h3; cases h3
        unfold wpOp
        rw [hoi]
        simp only [Region.wanted, hg, if_true]
        left
        refine wp_two (hcong A hAa) hwp ?_
        rintro v w' ⟨hw', hS'⟩
        refine ih (listed.setIfInBounds i true) (a.put o.dst v) w' (dn ++ [i]) is (A.put o.dst v) (by simp [hsz]) hcnt' hw' hS' (by rw [hdn]; simp) (fun x hx => by
          rw [hset]
          split
          · rfl
          · rename_i hne
            rcases List.mem_append.1 hx with h | h
            · exact hdl x h
            · exact absurd (by simpa using h) hne) ?_ ?_ (by rw [put_size, put_size, hs]) (by rw [put_size, hs0]) ?_ ?_ ?_ ?_
        · intro x hx
          have hne : x ≠ i := by
            intro e
            subst e
            rw [hdn] at hnd
            have := (List.nodup_append.1 hnd).2.1
            exact (List.nodup_cons.1 this).1 hx
          rw [hset, if_neg hne]
          exact hrest x (.tail _ hx)
        · cases o.dst <;> exact hd
        · intro j hj
          rw [← hv j hj]
          unfold valAt
          cases hjd : dstOf ops j with
          | none => rfl
          | some dj =>
            simp only
            refine put_other _ _ _ _ ?_
            rw [hdo']
            intro e
            have hji : j ≠ i := fun e2 => hf1 (by rw [← e2]; exact hj)
            exact hdd j (hfl j hj).1.1.2 hji (by rw [hjd]; exact e.symm)
        · intro t ht ht2
          rw [put_other _ _ _ _ (by rw [hdo', ← hdo]; exact ht i (by simp))]
          exact ho t (fun j hj => ht j (List.mem_append_left _ hj)) ht2
        · intro j hj k hk
          rw [hset]
          split
          · rfl
          · rcases List.mem_append.1 hj with h | h
            · exact hC j h k hk
            · have : j = i := by simpa using h
              subst this
              exact hwt k hk
        · intro t
          by_cases e : o.dst = some t
          · left
            rw [e]
            rw [hdo'] at e
            injection e with e
            subst e
            rw [put_same _ _ _ (by rw [hs, hs0]; exact hdlt), put_same _ _ _ (by rw [hs0]; exact hdlt)]
          · rw [put_other _ _ _ _ e, put_other _ _ _ _ e]
            rcases hrel t with h3 | ⟨k, hk, h3, h4⟩
            · exact .inl h3
            · refine .inr ⟨k, hk, ?_, h4⟩
              rw [hset, if_neg (fun e2 => hf1 (by rw [← e2]; exact hk))]
              exact h3
  refine wp_region_any hm ?_
  refine main ops.size (Array.replicate ops.size false) a0 w0.drew [] sp (putL ops c fl a0) (by simp) ?_ hW fin rfl (fun x hx => by cases hx) ?_ (putL_defers c fl a0).symm (putL_size c fl a0).symm (putL_size c fl a0) hA0 (fun t _ h => hout t h) (fun j hj => by cases hj) ?_
  · exact Nat.le_trans (List.length_filter_le _ _) (by simp)
  · intro i hi
    rw [Array.getD_eq_getD_getElem?, Array.getElem?_eq_getElem (by simpa using hspl i hi)]
    simp
  · intro t
    by_cases e : ∃ j ∈ fl, dstOf ops j = some t
    · obtain ⟨j, hj, hjd⟩ := e
      refine .inr ⟨j, hj, ?_, hjd⟩
      rw [Array.getD_eq_getD_getElem?, Array.getElem?_eq_getElem (by simpa using (hfl j hj).1.1.2)]
      simp
    · left
      exact (slotO fl (List.all_eq_true.2 fun k hk => by
        have : dstOf ops k ≠ some t := fun h => e ⟨k, hk, h⟩
        simpa using this)).symm
def putA : List (Nat × Tmp × Value) → Act → Act
  | [], a => a
  | x :: l, a => putA l (a.put (some x.2.1) x.2.2)
def valOf (fl : List (Nat × Tmp × Value)) (i : Nat) : Value := ((fl.find? fun y => y.1 == i).map (·.2.2)).getD undef
theorem valOf_mem : ∀ (fl : List (Nat × Tmp × Value)), (fl.map (·.1)).Nodup → ∀ x ∈ fl, valOf fl x.1 = x.2.2
  | [], _, x, h => by cases h
  | y :: l, hn, x, h => by
    rw [List.map_cons, List.nodup_cons] at hn
    unfold valOf
    rw [List.find?_cons]
    by_cases e : y.1 = x.1
    · have hx : x = y := by
        rcases List.mem_cons.1 h with h | h
        · exact h
        · exact absurd (by rw [e]; exact List.mem_map_of_mem h) hn.1
      subst hx
      simp
    · have e2 : (y.1 == x.1) = false := by simpa using e
      rw [e2]
      simp only
      rcases List.mem_cons.1 h with h | h
      · exact absurd (by rw [h]) e
      · exact valOf_mem l hn.2 x h
theorem putL_putA (c : Nat → Value) : ∀ (fl : List (Nat × Tmp × Value)) (a : Act), (∀ x ∈ fl, c x.1 = x.2.2 ∧ dstOf ops x.1 = some x.2.1) → putL ops c (fl.map (·.1)) a = putA fl a
  | [], a, _ => rfl
  | x :: l, a, h => by
    rw [List.map_cons]
    unfold putL putA
    rw [(h x (.head _)).1, (h x (.head _)).2]
    exact putL_putA c l _ fun y hy => h y (.tail _ hy)
end
end Go.Proofs.Ytbanbpphadgoiaa
/- As RegS, but the last of the row waits for all others, and behind it nothing is asked of the world. No conditions. -/
namespace Go.Proofs.Ytbanbpphadgoiaa
set_option linter.unusedVariables false
set_option linter.unusedSimpArgs false
open Go.RowKit
section
variable {P : Program} {ops : Array Oper} {Q : Exit → Act → World → Prop} {a0 : Act} {w0 : World}
/-- Operations one behind the other; W holds of each world between, but for the last. -/
def SpineU (P : Program) (ops : Array Oper) (Q : Exit → Act → World → Prop) (W : World → Prop) : List Nat → Act → World → Prop
  | [], a, w => Q .normal a w
  | i :: is, a, w => ∃ o, ops[i]? = some o ∧ o.guard = none ∧ Oper.wp P o a w (fun a' w' => a'.defers = a.defers ∧ (is ≠ [] → W w') ∧ SpineU P ops Q W is a' w') NoQ
/-- One of the row, as straight code. -/
theorem spineU_list {i : Nat} {is : List Nat} {W : World → Prop} {d : Option Tmp} {op : Op} {type : TypeId} {a : Act} {w : World} (ho : (ops[i]?).map (fun o => (o.op, o.type)) = some (op, type)) (hdo : (ops[i]?).map (·.dst) = some d) (hg : (ops[i]?).bind (·.guard) = none)
    (h : wpList P #[{ dst := d, op, type, pos := "", after := #[], guard := none }] (SpineQ a.defers (fun w => is ≠ [] → W w) (SpineU P ops Q W is)) [{ dst := d, op, type, pos := "", after := #[], guard := none }] a w) : SpineU P ops Q W (i :: is) a w := by
  cases hi : ops[i]? with
  | none => rw [hi] at ho; cases ho
  | some o =>
    rw [hi] at ho hdo hg
    obtain ⟨dst, op', type', pos, after, guard⟩ := o
    simp only [Option.map_some, Option.some.injEq, Prod.mk.injEq] at ho hdo
    obtain ⟨rfl, rfl⟩ := ho
    subst hdo
    simp only [Option.bind_some] at hg
    subst hg
    refine ⟨_, hi, rfl, ?_⟩
    unfold wpList at h
    simp only [Region.wanted, if_true] at h
    have he : execOp a.eval { dst, op := op', type := type', pos, after, guard := none } = execOp a.eval { dst, op := op', type := type', pos := "", after := #[], guard := none } := by
      cases op' <;> rfl
    rcases h with h | ⟨_, h2⟩
    · unfold Oper.wp at h ⊢
      rw [he]
      generalize (execOp a.eval { dst, op := op', type := type', pos := "", after := #[], guard := none }).run P w = r at *
      cases r with
      | ok n w' =>
        cases n <;> simp only [Oper.upon, wpList] at h ⊢
        case value u => exact h
        case skip => exact h
        case defer u => exact h
        case enter f args =>
          refine Calls.mono h fun e w'' he => ?_
          cases e with
          | returned u => exact he
          | panicked c => exact he.elim
          | outgrown => obtain ⟨_, _, hf⟩ := he; exact hf.elim
        case row row args => exact h
      | halt x w' =>
        cases x <;> simp only [Oper.upon] at h ⊢
        case panic u => exact h.elim
    · obtain ⟨_, _, h3⟩ := h2
      exact h3.elim
def plainB (ops : Array Oper) (i : Nat) : Bool := match ops[i]? with
  | none => true
  | some o => match o.op with | .defer _ => false | .select .. => false | _ => true
/-- The checks of regB, of all but the last, which leaves nothing in a slot. -/
def regUB (ops : Array Oper) (m size : Nat) : Bool :=
  ops.size == m + 1 && ((List.range (m + 1)).all fun i => eldB ops i) && ((List.range m).all fun i => ownB ops m size i) && (dstOf ops m).isNone && (List.range (m + 1)).all fun i => plainB ops i
theorem region_spineU {id m : Nat} (sp fl : List Nat) (c : Nat → Value) (W : World → Prop) (hm : P.follows .mixedOrders = true) (hreg : regUB ops m a0.tmps.size = true) (hmsp : m ∈ sp) (hsp : spineB ops sp fl = true) (hne : sp ≠ []) (hlw : ∀ l ∈ sp.getLast?, ∀ i ∈ fl, waitsB ops l i = true) (hW : W w0.drew)
    (hF : ∀ i ∈ fl, ∀ w, W w → ∃ o, ops[i]? = some o ∧ (execOp (putL ops c fl a0).eval o).run P w = .ok (.value (c i)) w)
    (fin : SpineU P ops Q W sp (putL ops c fl a0) w0.drew) : (Code.region id ops true).wp P Q a0 w0 := by
  unfold spineB at hsp
  simp only [Bool.and_eq_true, List.all_eq_true, List.mem_range, decide_eq_true_eq, Bool.or_eq_true, List.contains_iff_mem, Bool.not_eq_true', Bool.not_eq_eq_eq_not, Bool.not_true] at hsp
  obtain ⟨⟨⟨⟨⟨⟨hch, hcov⟩, hfl⟩, hspl⟩, hnd⟩, hfo⟩, hso⟩ := hsp
  have hflsp : ∀ j ∈ fl, j ∉ sp := fun j hj h => by
    have := (hfl j hj).1.1.1
    rw [List.contains_eq_mem] at this
    simp [h] at this
  have getT : ∀ (l : Array Bool) (k : Nat) (b c : Bool), k < l.size → l.getD k b = l.getD k c := by
    intro l k b c hk
    rw [Array.getD_eq_getD_getElem?, Array.getD_eq_getD_getElem?, Array.getElem?_eq_getElem hk]; rfl
  unfold regUB at hreg
  simp only [Bool.and_eq_true, beq_iff_eq, List.all_eq_true, List.mem_range, Option.isNone_iff_eq_none] at hreg
  obtain ⟨⟨⟨⟨hsize, held⟩, hown⟩, hmn⟩, hplain⟩ := hreg
  have hflm : ∀ j ∈ fl, j ≠ m := fun j hj e => hflsp j hj (by rw [e]; exact hmsp)
  have hdst : ∀ i, i < ops.size → i ≠ m → ∃ d, dstOf ops i = some d ∧ d < a0.tmps.size ∧ ∀ j, j < ops.size → j ≠ i → dstOf ops j ≠ some d := by
    intro i hi him
    obtain ⟨d, hd, hdl, hdd⟩ := ownB_out (hown i (by omega))
    refine ⟨d, hd, hdl, fun j hj hne => ?_⟩
    by_cases e : j = m
    · rw [e, hmn]; exact fun h => by cases h
    · exact hdd j (by omega) hne
  have hA0 : ∀ j ∈ fl, valAt ops (putL ops c fl a0) j = c j := by
    intro j hj
    obtain ⟨d, hd, hdl, _⟩ := hdst j (hfl j hj).1.1.2 (hflm j hj)
    have hs := (hfl j hj).2
    unfold slotsB at hs
    rw [hd] at hs
    unfold valAt
    rw [hd]
    exact slotJ fl hdl hs
  have hout : ∀ t, (∀ j ∈ fl, dstOf ops j ≠ some t) → (putL ops c fl a0).tmps.getD t undef = a0.tmps.getD t undef := by
    intro t ht
    exact slotO fl (List.all_eq_true.2 fun k hk => by simpa using ht k hk)
  have main : ∀ (fuel : Nat) (listed : Array Bool) (a : Act) (w : World) (dn rest : List Nat) (A : Act), listed.size = ops.size →
      ((List.range ops.size).filter fun j => !listed.getD j true).length ≤ fuel →
      (rest ≠ [] → W w) → SpineU P ops Q W rest A w → sp = dn ++ rest → (∀ i ∈ dn, listed.getD i true = true) → (∀ i ∈ rest, listed.getD i true = false) → a.defers = A.defers → a.tmps.size = A.tmps.size → A.tmps.size = a0.tmps.size →
      (∀ j ∈ fl, valAt ops A j = c j) → (∀ t, (∀ j ∈ dn, dstOf ops j ≠ some t) → (∀ j ∈ fl, dstOf ops j ≠ some t) → A.tmps.getD t undef = a0.tmps.getD t undef) → (∀ j ∈ dn, ∀ k, waitsB ops j k = true → listed.getD k true = true) →
      (∀ t, a.tmps.getD t undef = A.tmps.getD t undef ∨ ∃ j ∈ fl, listed.getD j true = false ∧ dstOf ops j = some t) →
      wpAny P .any ops Q fuel listed a w := by
    intro fuel
    have allUp : ∀ (listed : Array Bool), listed.size = ops.size → Region.ready .any ops listed = [] → ∀ j, j < ops.size → listed.getD j true = true := by
      intro listed hsz hr j
      induction j using Nat.strongRecOn with
      | ind j ih =>
        intro hj
        cases hl : listed.getD j true with
        | true => rfl
        | false =>
          exfalso
          obtain ⟨o, ho, he⟩ := eldB_out (held j (by omega))
          have : j ∈ Region.ready .any ops listed := mem_ready.2 ⟨hl, o, ho, fun e hem hb => by
            have hlt := he e hem hb
            have := ih e.on hlt (by omega)
            rw [Array.getD_eq_getD_getElem?] at this ⊢
            rw [Array.getElem?_eq_getElem (by omega)] at this ⊢
            exact this⟩
          rw [hr] at this
          cases this
    have done : ∀ (listed : Array Bool) (a : Act) (w : World) (dn rest : List Nat) (A : Act), (∀ j, j < ops.size → listed.getD j true = true) → SpineU P ops Q W rest A w → sp = dn ++ rest → (∀ i ∈ rest, listed.getD i true = false) →
        a.defers = A.defers → a.tmps.size = A.tmps.size → (∀ t, a.tmps.getD t undef = A.tmps.getD t undef ∨ ∃ j ∈ fl, listed.getD j true = false ∧ dstOf ops j = some t) → Q .normal a w := by
      intro listed a w dn rest A hall hS hdn hrest hd hs hrel
      cases rest with
      | cons i is =>
        have h1 := hrest i (.head _)
        rw [hall i (hspl i (by rw [hdn]; simp))] at h1
        cases h1
      | nil =>
        have h1 := putL_whole (ops := ops) A [] a hs hd (fun t => by
          rcases hrel t with h | ⟨j, hj, h1, _⟩
          · exact .inl h
          · rw [hall j (hfl j hj).1.1.2] at h1; cases h1)
        unfold putL at h1
        rw [h1]
        exact hS
    induction fuel with
    | zero =>
      intro listed a w dn rest A hsz hcnt hw hS hdn hdl hrest hd hs hs0 hv ho hC hrel
      have hall : ∀ j, j < ops.size → listed.getD j true = true := by
        intro j hj
        cases hl : listed.getD j true with
        | true => rfl
        | false =>
          have : j ∈ (List.range ops.size).filter fun j => !listed.getD j true := List.mem_filter.2 ⟨List.mem_range.2 hj, by simp only [hl]; rfl⟩
          rw [List.eq_nil_of_length_eq_zero (Nat.le_zero.1 hcnt)] at this
          cases this
      refine ⟨?_, done listed a w dn rest A hall hS hdn hrest hd hs hrel⟩
      apply List.eq_nil_iff_forall_not_mem.2
      intro j hj
      obtain ⟨h1, o, ho, _⟩ := mem_ready.1 hj
      have hlt : j < ops.size := (Array.getElem?_eq_some_iff.1 ho).1
      rw [hall j hlt] at h1
      cases h1
    | succ fuel ih =>
      intro listed a w dn rest A hsz hcnt hw hS hdn hdl hrest hd hs hs0 hv ho hC hrel
      refine ⟨fun hr => done listed a w dn rest A (allUp listed hsz hr) hS hdn hrest hd hs hrel, fun i hi => ?_⟩
      obtain ⟨hui, o, hoi, hall⟩ := mem_ready.1 hi
      have hlt : i < ops.size := (Array.getElem?_eq_some_iff.1 hoi).1
      have hlz : i < listed.size := by omega
      have hwt : ∀ j, waitsB ops i j = true → listed.getD j true = true := by
        intro j hj
        obtain ⟨o', ho', e, he, hb, rfl⟩ := waits_some hj
        rw [hoi] at ho'
        injection ho' with ho'
        subst ho'
        have h1 := hall e he hb
        rcases Nat.lt_or_ge e.on listed.size with hl | hl
        · rw [getT _ _ true false hl]
          exact h1
        · rw [Array.getD_eq_getD_getElem?, Array.getElem?_eq_none hl] at h1; cases h1
      have hset : ∀ j b, (listed.setIfInBounds i true).getD j b = if j = i then true else listed.getD j b := by
        intro j b
        rw [Array.getD_eq_getD_getElem?, Array.getD_eq_getD_getElem?, Array.getElem?_setIfInBounds]
        by_cases e : i = j
        · subst e; simp [hlz]
        · rw [if_neg e, if_neg (fun h => e h.symm)]
      have hcnt' : ((List.range ops.size).filter fun j => !(listed.setIfInBounds i true).getD j true).length ≤ fuel := by
        have := filter_less (p := fun j => !listed.getD j true) (q := fun j => !(listed.setIfInBounds i true).getD j true) (i := i) (l := List.range ops.size) (fun x hx => by
          rw [hset] at hx
          by_cases e : x = i
          · rw [if_pos e] at hx; cases hx
          · rw [if_neg e] at hx; exact hx) (List.mem_range.2 hlt) (by rw [hui]; rfl) (by rw [hset, if_pos rfl]; rfl)
        omega
      have hops : operandsOf ops i = o.op.operands.toList.filterMap fun | .tmp t => some t | _ => none := by unfold operandsOf; simp only [hoi]; try rfl
      have hndf : match o.op with | .defer _ => False | .select .. => False | _ => True := by
        have h2 := hplain i (by omega)
        unfold plainB at h2
        simp only [hoi] at h2
        revert h2
        cases o.op <;> simp
      have hcong : ∀ B : Act, (∀ t ∈ operandsOf ops i, B.tmps.getD t undef = a.tmps.getD t undef) → execOp B.eval o = execOp a.eval o := by
        intro B hB
        refine execOp_congr o (fun cs b e => by rw [e] at hndf; exact hndf) fun x hx => ?_
        cases x with
        | tmp t => exact hB t (by rw [hops]; exact List.mem_filterMap.2 ⟨.tmp t, by simpa using hx, rfl⟩)
        | _ => rfl
      by_cases him : i = m
      · have hf1 : i ∉ fl := fun h => hflm i h him
        have hdn0 : o.dst = none := by
          have h2 := hmn
          rw [← him] at h2
          unfold dstOf at h2
          rw [hoi] at h2
          exact h2
        have hput : ∀ (B : Act) (v : Value), B.put o.dst v = B := fun B v => by rw [hdn0]; rfl
        have hs1 : i ∈ sp := by
          rcases hcov i hlt with h | h
          · exact h
          · exact absurd h hf1
        have hhead : ∃ is, rest = i :: is := by
          have hmem : i ∈ dn ++ rest := by rw [← hdn]; exact hs1
          rcases List.mem_append.1 hmem with h | h
          · rw [hdl i h] at hui; cases hui
          · cases rest with
            | nil => cases h
            | cons x is =>
              by_cases e : i = x
              · exact ⟨is, by rw [e]⟩
              · exfalso
                have hmi : i ∈ is := by
                  rcases List.mem_cons.1 h with h | h
                  · exact absurd h e
                  · exact h
                obtain ⟨u, t, hut⟩ := List.append_of_mem hmi
                obtain ⟨pre, y, hy⟩ : ∃ pre y, x :: u = pre ++ [y] := ⟨(x :: u).dropLast, (x :: u).getLast (by simp), (List.dropLast_concat_getLast (by simp)).symm⟩
                have hsp2 : sp = (dn ++ pre) ++ y :: i :: t := by
                  rw [hdn, hut, ← List.cons_append, hy]
                  simp
                have hwy : waitsB ops i y = true := chain_at (d := dn ++ pre) (l := t) (by rw [← hsp2]; exact hch)
                have hyr : y ∈ x :: is := by
                  rw [hut, ← List.cons_append, hy]
                  simp
                have := hrest y hyr
                rw [hwt y hwy] at this
                cases this
        obtain ⟨is, rfl⟩ := hhead
        obtain ⟨o3, ho3, hg, hwp⟩ := hS
        rw [hoi] at ho3
        injection ho3 with ho3
        subst ho3
        have hAa : ∀ t ∈ operandsOf ops i, A.tmps.getD t undef = a.tmps.getD t undef := by
          intro t ht
          rcases hrel t with h3 | ⟨k, hk, h3, h4⟩
          · exact h3.symm
          · exfalso
            rcases hso i hs1 t ht k hk with h | h
            · exact absurd h4 (by simpa using h)
            · rw [hwt k h] at h3; cases h3
        unfold wpOp
        rw [hoi]
        simp only [Region.wanted, hg, if_true]
        left
        refine wp_two (hcong A hAa) hwp ?_
        rintro v w' ⟨hw', hS'⟩
        refine ih (listed.setIfInBounds i true) (a.put o.dst v) w' (dn ++ [i]) is (A.put o.dst v) (by simp [hsz]) hcnt' hw' hS' (by rw [hdn]; simp) (fun x hx => by
          rw [hset]
          split
          · rfl
          · rename_i hne
            rcases List.mem_append.1 hx with h | h
            · exact hdl x h
            · exact absurd (by simpa using h) hne) ?_ ?_ (by rw [put_size, put_size, hs]) (by rw [put_size, hs0]) ?_ ?_ ?_ ?_
        · intro x hx
          have hne : x ≠ i := by
            intro e
            subst e
            rw [hdn] at hnd
            have := (List.nodup_append.1 hnd).2.1
            exact (List.nodup_cons.1 this).1 hx
          rw [hset, if_neg hne]
          exact hrest x (.tail _ hx)
        · cases o.dst <;> exact hd
        · intro j hj
          rw [hput]; exact hv j hj
        · intro t ht ht2
          rw [hput]; exact ho t (fun j hj => ht j (List.mem_append_left _ hj)) ht2
        · intro j hj k hk
          rw [hset]
          split
          · rfl
          · rcases List.mem_append.1 hj with h | h
            · exact hC j h k hk
            · have : j = i := by simpa using h
              subst this
              exact hwt k hk
        · intro t
          rw [hput, hput]
          rcases hrel t with h3 | ⟨k, hk, h3, h4⟩
          · exact .inl h3
          · refine .inr ⟨k, hk, ?_, h4⟩
            rw [hset, if_neg (fun e2 => hf1 (by rw [← e2]; exact hk))]
            exact h3
      · obtain ⟨d, hdo, hdlt, hdd⟩ := hdst i hlt him
        have hdo' : o.dst = some d := by unfold dstOf at hdo; rw [hoi] at hdo; exact hdo
        have hval : ∀ (B : Act) (v : Value), B.tmps.size = a0.tmps.size → valAt ops (B.put o.dst v) i = v := by
          intro B v hB
          unfold valAt
          rw [hdo, hdo']
          exact put_same _ _ _ (by rw [hB]; exact hdlt)
        by_cases hf1 : i ∈ fl
        · -- one that floats
          have hg := (hfl i hf1).1.2
          rw [hoi, Option.bind_some, Option.isNone_iff_eq_none] at hg
          have hwr : rest ≠ [] := by
            intro e
            rw [e, List.append_nil] at hdn
            obtain ⟨l, hl⟩ : ∃ l, sp.getLast? = some l := ⟨sp.getLast hne, List.getLast?_eq_some_getLast hne⟩
            have hmem : l ∈ dn := by rw [← hdn]; exact List.mem_of_getLast? hl
            have := hC l hmem i (hlw l hl i hf1)
            rw [hui] at this
            cases this
          obtain ⟨o3, ho3, hrun⟩ := hF i hf1 w (hw hwr)
          rw [hoi] at ho3
          injection ho3 with ho3
          subst ho3
          have hA0a : ∀ t ∈ operandsOf ops i, (putL ops c fl a0).tmps.getD t undef = a.tmps.getD t undef := by
            intro t ht
            rcases hfo i hf1 t ht with h | h
            · rw [List.any_eq_true] at h
              obtain ⟨j, hj, h⟩ := h
              rw [Bool.and_eq_true, beq_iff_eq] at h
              have h1 := hA0 j hj
              have h2 := hv j hj
              unfold valAt at h1 h2
              rw [h.2] at h1 h2
              rcases hrel t with h3 | ⟨k, hk, h3, h4⟩
              · rw [h3]; exact h1.trans h2.symm
              · exfalso
                obtain ⟨dj, hdj, _, hdd2⟩ := hdst j (hfl j hj).1.1.2 (hflm j hj)
                rw [h.2] at hdj
                injection hdj with hdj
                subst hdj
                have hkj : k = j := by
                  apply Classical.byContradiction
                  intro hne
                  exact hdd2 k (hfl k hk).1.1.2 hne h4
                rw [hkj, hwt j h.1] at h3
                cases h3
            · have h' : ∀ j ∈ fl, dstOf ops j ≠ some t := fun j hj => by simpa using h.1 j hj
              rw [hout t h', ← ho t (fun j hj e => by
                rcases h.2 j (by rw [hdn]; exact List.mem_append_left _ hj) with h5 | h5
                · exact absurd e (by simpa using h5)
                · have := hC j hj i h5
                  rw [hui] at this
                  cases this) h']
              rcases hrel t with h3 | ⟨k, hk, _, h4⟩
              · exact h3.symm
              · exact absurd h4 (h' k hk)
          have hrun' : (execOp a.eval o).run P w = .ok (.value (c i)) w := by rw [← hcong _ hA0a]; exact hrun
          unfold wpOp
          rw [hoi]
          simp only [Region.wanted, hg, if_true]
          left
          unfold Oper.wp
          rw [hrun']
          simp only [Oper.upon]
          refine ih (listed.setIfInBounds i true) (a.put o.dst (c i)) w dn rest A (by simp [hsz]) hcnt' hw hS hdn (fun x hx => by rw [hset]; split; rfl; exact hdl x hx) ?_ ?_ (by rw [put_size, hs]) hs0 hv ho (fun j hj k hk => by rw [hset]; split; rfl; exact hC j hj k hk) ?_
          · intro x hx
            rw [hset, if_neg (fun e => hflsp i hf1 (by rw [hdn, ← e]; exact List.mem_append_right _ hx))]
            exact hrest x hx
          · rw [← hd]; cases o.dst <;> rfl
          · intro t
            by_cases e : dstOf ops i = some t
            · left
              have h2 := hv i hf1
              unfold valAt at h2
              rw [e] at h2
              rw [hdo] at e
              injection e with e
              subst e
              rw [hdo', put_same _ _ _ (by rw [hs, hs0]; exact hdlt)]
              exact h2.symm
            · rw [put_other _ _ _ _ (by rw [hdo', ← hdo]; exact e)]
              rcases hrel t with h3 | ⟨k, hk, h3, h4⟩
              · exact .inl h3
              · refine .inr ⟨k, hk, ?_, h4⟩
                rw [hset, if_neg (fun e2 => e (by rw [← e2]; exact h4))]
                exact h3
        · -- one of the row
          have hs1 : i ∈ sp := by
            rcases hcov i hlt with h | h
            · exact h
            · exact absurd h hf1
          have hhead : ∃ is, rest = i :: is := by
            have hmem : i ∈ dn ++ rest := by rw [← hdn]; exact hs1
            rcases List.mem_append.1 hmem with h | h
            · rw [hdl i h] at hui; cases hui
            · cases rest with
              | nil => cases h
              | cons x is =>
                by_cases e : i = x
                · exact ⟨is, by rw [e]⟩
                · exfalso
                  have hmi : i ∈ is := by
                    rcases List.mem_cons.1 h with h | h
                    · exact absurd h e
                    · exact h
                  obtain ⟨u, t, hut⟩ := List.append_of_mem hmi
                  obtain ⟨pre, y, hy⟩ : ∃ pre y, x :: u = pre ++ [y] := ⟨(x :: u).dropLast, (x :: u).getLast (by simp), (List.dropLast_concat_getLast (by simp)).symm⟩
                  have hsp2 : sp = (dn ++ pre) ++ y :: i :: t := by
                    rw [hdn, hut, ← List.cons_append, hy]
                    simp
                  have hwy : waitsB ops i y = true := chain_at (d := dn ++ pre) (l := t) (by rw [← hsp2]; exact hch)
                  have hyr : y ∈ x :: is := by
                    rw [hut, ← List.cons_append, hy]
                    simp
                  have := hrest y hyr
                  rw [hwt y hwy] at this
                  cases this
          obtain ⟨is, rfl⟩ := hhead
          obtain ⟨o3, ho3, hg, hwp⟩ := hS
          rw [hoi] at ho3
          injection ho3 with ho3
          subst ho3
          have hAa : ∀ t ∈ operandsOf ops i, A.tmps.getD t undef = a.tmps.getD t undef := by
            intro t ht
            rcases hrel t with h3 | ⟨k, hk, h3, h4⟩
            · exact h3.symm
            · exfalso
              rcases hso i hs1 t ht k hk with h | h
              · exact absurd h4 (by simpa using h)
              · rw [hwt k h] at h3; cases h3
          unfold wpOp
          rw [hoi]
          simp only [Region.wanted, hg, if_true]
          left
          refine wp_two (hcong A hAa) hwp ?_
          rintro v w' ⟨hw', hS'⟩
          refine ih (listed.setIfInBounds i true) (a.put o.dst v) w' (dn ++ [i]) is (A.put o.dst v) (by simp [hsz]) hcnt' hw' hS' (by rw [hdn]; simp) (fun x hx => by
            rw [hset]
            split
            · rfl
            · rename_i hne
              rcases List.mem_append.1 hx with h | h
              · exact hdl x h
              · exact absurd (by simpa using h) hne) ?_ ?_ (by rw [put_size, put_size, hs]) (by rw [put_size, hs0]) ?_ ?_ ?_ ?_
          · intro x hx
            have hne : x ≠ i := by
              intro e
              subst e
              rw [hdn] at hnd
              have := (List.nodup_append.1 hnd).2.1
              exact (List.nodup_cons.1 this).1 hx
            rw [hset, if_neg hne]
            exact hrest x (.tail _ hx)
          · cases o.dst <;> exact hd
          · intro j hj
            rw [← hv j hj]
            unfold valAt
            cases hjd : dstOf ops j with
            | none => rfl
            | some dj =>
              simp only
              refine put_other _ _ _ _ ?_
              rw [hdo']
              intro e
              have hji : j ≠ i := fun e2 => hf1 (by rw [← e2]; exact hj)
              exact hdd j (hfl j hj).1.1.2 hji (by rw [hjd]; exact e.symm)
          · intro t ht ht2
            rw [put_other _ _ _ _ (by rw [hdo', ← hdo]; exact ht i (by simp))]
            exact ho t (fun j hj => ht j (List.mem_append_left _ hj)) ht2
          · intro j hj k hk
            rw [hset]
            split
            · rfl
            · rcases List.mem_append.1 hj with h | h
              · exact hC j h k hk
              · have : j = i := by simpa using h
                subst this
                exact hwt k hk
          · intro t
            by_cases e : o.dst = some t
            · left
              rw [e]
              rw [hdo'] at e
              injection e with e
              subst e
              rw [put_same _ _ _ (by rw [hs, hs0]; exact hdlt), put_same _ _ _ (by rw [hs0]; exact hdlt)]
            · rw [put_other _ _ _ _ e, put_other _ _ _ _ e]
              rcases hrel t with h3 | ⟨k, hk, h3, h4⟩
              · exact .inl h3
              · refine .inr ⟨k, hk, ?_, h4⟩
                rw [hset, if_neg (fun e2 => hf1 (by rw [← e2]; exact hk))]
                exact h3
  refine wp_region_any hm ?_
  refine main ops.size (Array.replicate ops.size false) a0 w0.drew [] sp (putL ops c fl a0) (by simp) ?_ (fun _ => hW) fin rfl (fun x hx => by cases hx) ?_ (putL_defers c fl a0).symm (putL_size c fl a0).symm (putL_size c fl a0) hA0 (fun t _ h => hout t h) (fun j hj => by cases hj) ?_
  · exact Nat.le_trans (List.length_filter_le _ _) (by simp)
  · intro i hi
    rw [Array.getD_eq_getD_getElem?, Array.getElem?_eq_getElem (by simpa using hspl i hi)]
    simp
  · intro t
    by_cases e : ∃ j ∈ fl, dstOf ops j = some t
    · obtain ⟨j, hj, hjd⟩ := e
      refine .inr ⟨j, hj, ?_, hjd⟩
      rw [Array.getD_eq_getD_getElem?, Array.getElem?_eq_getElem (by simpa using (hfl j hj).1.1.2)]
      simp
    · left
      exact (slotO fl (List.all_eq_true.2 fun k hk => by
        have : dstOf ops k ≠ some t := fun h => e ⟨k, hk, h⟩
        simpa using this)).symm
/-- region_spine, by a list of places, slots and values. -/
theorem region_by_spineU {id : Nat} (m : Nat) (sp : List Nat) (fl : List (Nat × Tmp × Value)) (W : World → Prop) (hm : P.follows .mixedOrders = true) (hreg : regUB ops m a0.tmps.size = true) (hmsp : decide (m ∈ sp) = true) (hsp : spineB ops sp (fl.map (·.1)) = true) (hlw : (match sp.getLast? with | some l => (fl.map (·.1)).all fun i => waitsB ops l i | none => false) = true)
    (hd : (fl.map fun x => dstOf ops x.1) = fl.map fun x => some x.2.1) (hn : decide ((fl.map (·.1)).Nodup) = true) (hW : W w0.drew)
    (hF : ∀ x ∈ fl, ∀ w ρ, W w → (∀ t, ρ (.tmp t) = (putA fl a0).tmps.getD t undef) → (∀ c, ρ (.const c) = c) → ∃ o, ops[x.1]? = some o ∧ (execOp ρ o).run P w = .ok (.value x.2.2) w)
    (fin : SpineU P ops Q W sp (putA fl a0) w0.drew) : (Code.region id ops true).wp P Q a0 w0 := by
  have hall : ∀ x ∈ fl, valOf fl x.1 = x.2.2 ∧ dstOf ops x.1 = some x.2.1 := fun x hx => ⟨valOf_mem fl (of_decide_eq_true hn) x hx, by
    obtain ⟨k, hk, rfl⟩ := List.getElem_of_mem hx
    have := congrArg (fun l => l[k]?) hd
    simpa [hk] using this⟩
  have he := putL_putA (ops := ops) (valOf fl) fl a0 hall
  refine region_spineU sp (fl.map (·.1)) (valOf fl) W hm hreg (of_decide_eq_true hmsp) hsp (fun e => by rw [e] at hlw; cases hlw) (fun l hl i hi => by rw [show sp.getLast? = some l from hl] at hlw; exact List.all_eq_true.1 hlw i hi) hW ?_ (by rw [he]; exact fin)
  intro i hi w hw
  obtain ⟨x, hx, rfl⟩ := List.mem_map.1 hi
  rw [(hall x hx).1, he]
  exact hF x hx w _ hw (fun t => rfl) (fun c => rfl)
end
end Go.Proofs.Ytbanbpphadgoiaa
/- The document's collector in memory; its done; its next step's regions. Conditions: lengths. -/
namespace Go.Proofs.Ytbanbpphadgoiaa
set_option linter.unusedVariables false
set_option linter.unusedSimpArgs false
open Go.RowKit Go.Maps
set_option maxHeartbeats 1000000
set_option maxRecDepth 100000
/-- The document's collector in memory; the blocks S are foreign to it. -/
def PaAt (S : Nat → Prop) (W : World) (B X R N Pb : Nat) (rA : Option Addr) (rc : Nat) (ws : List (BitVec 64)) (b t e : Nat) (l : List Nat) (m : Nat) (A2 : Option Addr) (M c2 : Nat) (full : Bool) (s : Sc) : Prop :=
  ∃ (ov : Value) (xs : List Int), RS (fun k => S k ∨ k = Pb ∨ ov.ownBlock = some k) W B X R N rA rc ws b t e l m s.c s.sc full ∧ Bk W Pb 41 #[.pointer (some ⟨X, 0, none⟩), .slice A2 M c2, ov] ∧ Ow zV 3 W B ov xs ∧ (∀ k, ov.ownBlock = some k → k ≠ Pb ∧ ¬ S k) ∧ ¬ S Pb ∧ B ≤ Pb ∧ (full = false → xs = backZ s.qs)
section
variable {S : Nat → Prop} {B X R N Pb : Nat} {rA : Option Addr} {rc : Nat} {ws : List (BitVec 64)} {b t e : Nat} {l : List Nat} {m : Nat} {A2 : Option Addr} {M c2 : Nat} {full : Bool} {s : Sc}
theorem PaAt.below {W W' : World} (h : PaAt S W B X R N Pb rA rc ws b t e l m A2 M c2 full s) (hb : Below W.heap.size W W') : PaAt S W' B X R N Pb rA rc ws b t e l m A2 M c2 full s := by
  obtain ⟨ov, xs, h1, h2, h3, h4, h5, h6, h7⟩ := h
  exact ⟨ov, xs, h1.below hb, h2.below hb h2.lt, h3.below hb, h4, h5, h6, h7⟩
theorem PaAt.lt {W : World} (h : PaAt S W B X R N Pb rA rc ws b t e l m A2 M c2 full s) : Pb < W.heap.size ∧ B ≤ W.heap.size ∧ B ≤ Pb ∧ ∀ k, S k → k < W.heap.size := by
  obtain ⟨ov, xs, h1, h2, h3, h4, h5, h6, h7⟩ := h
  obtain ⟨_, _, _, _, _, _, _, _, _, h8⟩ := h1
  have := h2.lt
  exact ⟨this, by omega, h6, fun k hk => (h8 k (.inl hk)).1⟩
end
theorem dn_ne (Q : Exit → Act → World → Prop) (a0 : Act) (w : World) (Pb X k M oc c2 : Nat) (oA A2 : Option Addr) (hP : Pb < w.heap.size) (hX : X < w.heap.size) (p0 : w.cell? ⟨Pb, 0, none⟩ = some (.pointer (some ⟨X, 0, none⟩))) (p1 : w.cell? ⟨Pb, 1, none⟩ = some (.slice A2 M c2)) (p2 : w.cell? ⟨Pb, 2, none⟩ = some (.slice oA k oc)) (x5 : w.cell? ⟨X, 5, none⟩ = some (.bool false)) (hne : ¬ (k : Int) = (M : Int)) (hsz : a0.tmps.size = 44) (sl0 : a0.tmps.getD 0 undef = .pointer (some ⟨Pb, 0, none⟩))
    (fin : ∀ (vals : Nat → Value) (w1 : World), Below w.heap.size w w1 → (IsV (.bool false)) (vals 41) w1 → Q .normal (putD vals [3, 4, 5, 6, 7, 8, 9, 10, 11, 12, 13, 14, 15, 16, 17, 18, 19, 20, 21, 22, 23, 24, 25, 26, 27, 28, 29, 30, 31, 32, 33, 34, 35, 36, 37, 38, 39, 40, 41, 42, 43, 2] 0 a0) w1) :
    (Code.region 1 (regIn Try.f18 1) true).wp Try.prog Q a0 w := by
  refine region_by (G := fun w w1 => Below w.heap.size w w1) [IsV (.pointer (some ⟨Pb, 0, none⟩)),
    IsV (.pointer (some ⟨Pb, 0, none⟩)),
    IsV (.pointer (some ⟨Pb, 0, none⟩)),
    IsV (.pointer (some ⟨X, 0, none⟩)),
    IsV (.pointer (some ⟨X, 0, none⟩)),
    IsV (.pointer (some ⟨X, 5, none⟩)),
    IsV (.bool false),
    IsV (.bool true),
    IsV (.bool true),
    IsV (.pointer (some ⟨Pb, 0, none⟩)),
    IsV (.pointer (some ⟨Pb, 0, none⟩)),
    IsV (.pointer (some ⟨Pb, 2, none⟩)),
    IsV (.slice oA k oc),
    IsV (.int .i64 (k : Int)),
    IsV (.pointer (some ⟨Pb, 0, none⟩)),
    IsV (.pointer (some ⟨Pb, 0, none⟩)),
    IsV (.pointer (some ⟨Pb, 1, none⟩)),
    IsV (.slice A2 M c2),
    IsV (.int .i64 (M : Int)),
    IsV (.bool false),
    IsV (.bool false),
    IsV (.bool false),
    IsV undef,
    IsV undef,
    IsV undef,
    IsV undef,
    IsV undef,
    IsV undef,
    IsV undef,
    IsV undef,
    IsV undef,
    IsV undef,
    IsV undef,
    IsV undef,
    IsV undef,
    IsV undef,
    IsV undef,
    IsV undef,
    IsV undef,
    IsV undef,
    IsV (.bool false),
    IsV (.bool false)]
    [3, 4, 5, 6, 7, 8, 9, 10, 11, 12, 13, 14, 15, 16, 17, 18, 19, 20, 21, 22, 23, 24, 25, 26, 27, 28, 29, 30, 31, 32, 33, 34, 35, 36, 37, 38, 39, 40, 41, 42, 43, 2] (by kernel_rfl) (Gw.drew _) Gw.trans (by rw [hsz]; kernel_rfl) (by kernel_rfl) ?_ ?_ ?_
  · intro f hf
    simp only [List.mem_cons, List.not_mem_nil, or_false] at hf
    rcases hf with rfl | rfl | rfl | rfl | rfl | rfl | rfl | rfl | rfl | rfl | rfl | rfl | rfl | rfl | rfl | rfl | rfl | rfl | rfl | rfl | rfl | rfl | rfl | rfl | rfl | rfl | rfl | rfl | rfl | rfl | rfl | rfl | rfl | rfl | rfl | rfl | rfl | rfl | rfl | rfl | rfl | rfl <;> intro v a b h g <;> first | exact IsV.mono h
  · refine ⟨?_, ?_, ?_, ?_, ?_, ?_, ?_, ?_, ?_, ?_, ?_, ?_, ?_, ?_, ?_, ?_, ?_, ?_, ?_, ?_, ?_, ?_, ?_, ?_, ?_, ?_, ?_, ?_, ?_, ?_, ?_, ?_, ?_, ?_, ?_, ?_, ?_, ?_, ?_, ?_, ?_, ?_, trivial⟩
    · exact owes_mv 0 (by kernel_rfl) (by kernel_rfl) (by kernel_rfl) sl0 (fun _ => rfl)
    · refine owes_v (Go.Op.nilCheck (Go.Operand.tmp 3)) 0 [0] (by kernel_rfl) (by kernel_rfl) (by kernel_rfl) rfl fun vals w1 ρ hG hF hρ hcst hfun => ?_
      have e3 : ρ (.tmp 3) = .pointer (some ⟨Pb, 0, none⟩) := ((hρ 3).trans (slotJ [0] (by rw [hsz]; decide) (by kernel_rfl))).trans (hF 0 (by decide))
      clear hρ hF hcst hfun sl0 fin
      exact opv_val (by go_simp <;> rfl) ⟨gw_self _, rfl⟩
    · refine owes_v (Go.Op.fieldAddr 41 (Go.Operand.tmp 4) 0) 0 [1] (by kernel_rfl) (by kernel_rfl) (by kernel_rfl) rfl fun vals w1 ρ hG hF hρ hcst hfun => ?_
      have e4 : ρ (.tmp 4) = .pointer (some ⟨Pb, 0, none⟩) := ((hρ 4).trans (slotJ [1] (by rw [hsz]; decide) (by kernel_rfl))).trans (hF 1 (by decide))
      clear hρ hF hcst hfun sl0 fin
      exact opv_val (by go_simp <;> rfl) ⟨gw_self _, rfl⟩
    · refine owes_v (Go.Op.load 38 (Go.Operand.tmp 5)) 38 [2] (by kernel_rfl) (by kernel_rfl) (by kernel_rfl) rfl fun vals w1 ρ hG hF hρ hcst hfun => ?_
      have e5 : ρ (.tmp 5) = .pointer (some ⟨Pb, 0, none⟩) := ((hρ 5).trans (slotJ [2] (by rw [hsz]; decide) (by kernel_rfl))).trans (hF 2 (by decide))
      have k := (hG.cell (p := ⟨Pb, 0, none⟩) hP).trans p0
      clear hρ hF hcst hfun sl0 fin
      exact opv_val (by go_simp <;> rfl) ⟨gw_self _, rfl⟩
    · refine owes_v (Go.Op.nilCheck (Go.Operand.tmp 6)) 0 [3] (by kernel_rfl) (by kernel_rfl) (by kernel_rfl) rfl fun vals w1 ρ hG hF hρ hcst hfun => ?_
      have e6 : ρ (.tmp 6) = .pointer (some ⟨X, 0, none⟩) := ((hρ 6).trans (slotJ [3] (by rw [hsz]; decide) (by kernel_rfl))).trans (hF 3 (by decide))
      clear hρ hF hcst hfun sl0 fin
      exact opv_val (by go_simp <;> rfl) ⟨gw_self _, rfl⟩
    · refine owes_v (Go.Op.fieldAddr 49 (Go.Operand.tmp 7) 5) 0 [4] (by kernel_rfl) (by kernel_rfl) (by kernel_rfl) rfl fun vals w1 ρ hG hF hρ hcst hfun => ?_
      have e7 : ρ (.tmp 7) = .pointer (some ⟨X, 0, none⟩) := ((hρ 7).trans (slotJ [4] (by rw [hsz]; decide) (by kernel_rfl))).trans (hF 4 (by decide))
      clear hρ hF hcst hfun sl0 fin
      exact opv_val (by go_simp <;> rfl) ⟨gw_self _, rfl⟩
    · refine owes_v (Go.Op.load 4 (Go.Operand.tmp 8)) 4 [5] (by kernel_rfl) (by kernel_rfl) (by kernel_rfl) rfl fun vals w1 ρ hG hF hρ hcst hfun => ?_
      have e8 : ρ (.tmp 8) = .pointer (some ⟨X, 5, none⟩) := ((hρ 8).trans (slotJ [5] (by rw [hsz]; decide) (by kernel_rfl))).trans (hF 5 (by decide))
      have k := (hG.cell (p := ⟨X, 5, none⟩) hX).trans x5
      clear hρ hF hcst hfun sl0 fin
      exact opv_val (by go_simp <;> rfl) ⟨gw_self _, rfl⟩
    · refine owes_v (Go.Op.unOp Go.UnOp.not 4 (Go.Operand.tmp 9)) 4 [6] (by kernel_rfl) (by kernel_rfl) (by kernel_rfl) rfl fun vals w1 ρ hG hF hρ hcst hfun => ?_
      have e9 : ρ (.tmp 9) = .bool false := ((hρ 9).trans (slotJ [6] (by rw [hsz]; decide) (by kernel_rfl))).trans (hF 6 (by decide))
      clear hρ hF hcst hfun sl0 fin
      exact opv_val (by go_simp <;> rfl) ⟨gw_self _, rfl⟩
    · exact owes_mvj 7 10 (by kernel_rfl) (by kernel_rfl) (by kernel_rfl) (by kernel_rfl) (by rw [hsz]; decide) (fun v w h => h)
    · refine owes_vt 8 true (Go.Op.move (Go.Operand.tmp 0)) 37 [] (by kernel_rfl) (by kernel_rfl) (by kernel_rfl) (fun _ _ h => h) (by rw [hsz]; kernel_rfl) (by kernel_rfl) rfl fun vals w1 ρ hG hF hρ hcst hfun => ?_
      have e0 : ρ (.tmp 0) = .pointer (some ⟨Pb, 0, none⟩) := ((hρ 0).trans (slotO [] (by kernel_rfl))).trans sl0
      clear hρ hF hcst hfun sl0 fin
      exact opv_val (by go_simp <;> rfl) ⟨gw_self _, rfl⟩
    · refine owes_vt 8 true (Go.Op.nilCheck (Go.Operand.tmp 12)) 0 [9] (by kernel_rfl) (by kernel_rfl) (by kernel_rfl) (fun _ _ h => h) (by rw [hsz]; kernel_rfl) (by kernel_rfl) rfl fun vals w1 ρ hG hF hρ hcst hfun => ?_
      have e12 : ρ (.tmp 12) = .pointer (some ⟨Pb, 0, none⟩) := ((hρ 12).trans (slotJ [9] (by rw [hsz]; decide) (by kernel_rfl))).trans (hF 9 (by decide))
      clear hρ hF hcst hfun sl0 fin
      exact opv_val (by go_simp <;> rfl) ⟨gw_self _, rfl⟩
    · refine owes_vt 8 true (Go.Op.fieldAddr 41 (Go.Operand.tmp 13) 2) 0 [10] (by kernel_rfl) (by kernel_rfl) (by kernel_rfl) (fun _ _ h => h) (by rw [hsz]; kernel_rfl) (by kernel_rfl) rfl fun vals w1 ρ hG hF hρ hcst hfun => ?_
      have e13 : ρ (.tmp 13) = .pointer (some ⟨Pb, 0, none⟩) := ((hρ 13).trans (slotJ [10] (by rw [hsz]; decide) (by kernel_rfl))).trans (hF 10 (by decide))
      clear hρ hF hcst hfun sl0 fin
      exact opv_val (by go_simp <;> rfl) ⟨gw_self _, rfl⟩
    · refine owes_vt 8 true (Go.Op.load 23 (Go.Operand.tmp 14)) 23 [11] (by kernel_rfl) (by kernel_rfl) (by kernel_rfl) (fun _ _ h => h) (by rw [hsz]; kernel_rfl) (by kernel_rfl) rfl fun vals w1 ρ hG hF hρ hcst hfun => ?_
      have e14 : ρ (.tmp 14) = .pointer (some ⟨Pb, 2, none⟩) := ((hρ 14).trans (slotJ [11] (by rw [hsz]; decide) (by kernel_rfl))).trans (hF 11 (by decide))
      have k := (hG.cell (p := ⟨Pb, 2, none⟩) hP).trans p2
      clear hρ hF hcst hfun sl0 fin
      exact opv_val (by go_simp <;> rfl) ⟨gw_self _, rfl⟩
    · refine owes_vt 8 true (Go.Op.call { callee := Go.Callee.builtin Go.Builtin.len, args := #[Go.Operand.tmp 15], argTypes := #[23] }) 3 [12] (by kernel_rfl) (by kernel_rfl) (by kernel_rfl) (fun _ _ h => h) (by rw [hsz]; kernel_rfl) (by kernel_rfl) rfl fun vals w1 ρ hG hF hρ hcst hfun => ?_
      have e15 : ρ (.tmp 15) = .slice oA k oc := ((hρ 15).trans (slotJ [12] (by rw [hsz]; decide) (by kernel_rfl))).trans (hF 12 (by decide))
      clear hρ hF hcst hfun sl0 fin
      exact opv_val (by go_simp <;> rfl) ⟨gw_self _, rfl⟩
    · refine owes_vt 8 true (Go.Op.move (Go.Operand.tmp 0)) 37 [] (by kernel_rfl) (by kernel_rfl) (by kernel_rfl) (fun _ _ h => h) (by rw [hsz]; kernel_rfl) (by kernel_rfl) rfl fun vals w1 ρ hG hF hρ hcst hfun => ?_
      have e0 : ρ (.tmp 0) = .pointer (some ⟨Pb, 0, none⟩) := ((hρ 0).trans (slotO [] (by kernel_rfl))).trans sl0
      clear hρ hF hcst hfun sl0 fin
      exact opv_val (by go_simp <;> rfl) ⟨gw_self _, rfl⟩
    · refine owes_vt 8 true (Go.Op.nilCheck (Go.Operand.tmp 17)) 0 [14] (by kernel_rfl) (by kernel_rfl) (by kernel_rfl) (fun _ _ h => h) (by rw [hsz]; kernel_rfl) (by kernel_rfl) rfl fun vals w1 ρ hG hF hρ hcst hfun => ?_
      have e17 : ρ (.tmp 17) = .pointer (some ⟨Pb, 0, none⟩) := ((hρ 17).trans (slotJ [14] (by rw [hsz]; decide) (by kernel_rfl))).trans (hF 14 (by decide))
      clear hρ hF hcst hfun sl0 fin
      exact opv_val (by go_simp <;> rfl) ⟨gw_self _, rfl⟩
    · refine owes_vt 8 true (Go.Op.fieldAddr 41 (Go.Operand.tmp 18) 1) 0 [15] (by kernel_rfl) (by kernel_rfl) (by kernel_rfl) (fun _ _ h => h) (by rw [hsz]; kernel_rfl) (by kernel_rfl) rfl fun vals w1 ρ hG hF hρ hcst hfun => ?_
      have e18 : ρ (.tmp 18) = .pointer (some ⟨Pb, 0, none⟩) := ((hρ 18).trans (slotJ [15] (by rw [hsz]; decide) (by kernel_rfl))).trans (hF 15 (by decide))
      clear hρ hF hcst hfun sl0 fin
      exact opv_val (by go_simp <;> rfl) ⟨gw_self _, rfl⟩
    · refine owes_vt 8 true (Go.Op.load 23 (Go.Operand.tmp 19)) 23 [16] (by kernel_rfl) (by kernel_rfl) (by kernel_rfl) (fun _ _ h => h) (by rw [hsz]; kernel_rfl) (by kernel_rfl) rfl fun vals w1 ρ hG hF hρ hcst hfun => ?_
      have e19 : ρ (.tmp 19) = .pointer (some ⟨Pb, 1, none⟩) := ((hρ 19).trans (slotJ [16] (by rw [hsz]; decide) (by kernel_rfl))).trans (hF 16 (by decide))
      have k := (hG.cell (p := ⟨Pb, 1, none⟩) hP).trans p1
      clear hρ hF hcst hfun sl0 fin
      exact opv_val (by go_simp <;> rfl) ⟨gw_self _, rfl⟩
    · refine owes_vt 8 true (Go.Op.call { callee := Go.Callee.builtin Go.Builtin.len, args := #[Go.Operand.tmp 20], argTypes := #[23] }) 3 [17] (by kernel_rfl) (by kernel_rfl) (by kernel_rfl) (fun _ _ h => h) (by rw [hsz]; kernel_rfl) (by kernel_rfl) rfl fun vals w1 ρ hG hF hρ hcst hfun => ?_
      have e20 : ρ (.tmp 20) = .slice A2 M c2 := ((hρ 20).trans (slotJ [17] (by rw [hsz]; decide) (by kernel_rfl))).trans (hF 17 (by decide))
      clear hρ hF hcst hfun sl0 fin
      exact opv_val (by go_simp <;> rfl) ⟨gw_self _, rfl⟩
    · refine owes_vt 8 true (Go.Op.binOp Go.BinOp.eql 3 (Go.Operand.tmp 16) (Go.Operand.tmp 21) 3) 4 [13, 18] (by kernel_rfl) (by kernel_rfl) (by kernel_rfl) (fun _ _ h => h) (by rw [hsz]; kernel_rfl) (by kernel_rfl) rfl fun vals w1 ρ hG hF hρ hcst hfun => ?_
      have e16 : ρ (.tmp 16) = .int .i64 (k : Int) := ((hρ 16).trans (slotJ [13, 18] (by rw [hsz]; decide) (by kernel_rfl))).trans (hF 13 (by decide))
      have e21 : ρ (.tmp 21) = .int .i64 (M : Int) := ((hρ 21).trans (slotJ [13, 18] (by rw [hsz]; decide) (by kernel_rfl))).trans (hF 18 (by decide))
      clear hρ hF hcst hfun sl0 fin
      exact opv_val (by go_simp <;> rfl) ⟨gw_self _, rfl⟩
    · refine owes_v (Go.Op.pick (Go.Operand.tmp 11) (Go.Operand.tmp 22) (Go.Operand.const (Go.Value.bool false))) 4 [8, 19] (by kernel_rfl) (by kernel_rfl) (by kernel_rfl) rfl fun vals w1 ρ hG hF hρ hcst hfun => ?_
      have e11 : ρ (.tmp 11) = .bool true := ((hρ 11).trans (slotJ [8, 19] (by rw [hsz]; decide) (by kernel_rfl))).trans (hF 8 (by decide))
      have e22 : ρ (.tmp 22) = .bool false := ((hρ 22).trans (slotJ [8, 19] (by rw [hsz]; decide) (by kernel_rfl))).trans (hF 19 (by decide))
      clear hρ hF hfun sl0 fin
      exact opv_val (by go_simp <;> rfl) ⟨gw_self _, rfl⟩
    · exact owes_mvj 20 23 (by kernel_rfl) (by kernel_rfl) (by kernel_rfl) (by kernel_rfl) (by rw [hsz]; decide) (fun v w h => h)
    · exact owes_no 21 false true (by decide) (by kernel_rfl) (by kernel_rfl) (fun _ _ h => h) (by rw [hsz]; kernel_rfl) (fun _ => rfl)
    · exact owes_no 21 false true (by decide) (by kernel_rfl) (by kernel_rfl) (fun _ _ h => h) (by rw [hsz]; kernel_rfl) (fun _ => rfl)
    · exact owes_no 21 false true (by decide) (by kernel_rfl) (by kernel_rfl) (fun _ _ h => h) (by rw [hsz]; kernel_rfl) (fun _ => rfl)
    · exact owes_no 21 false true (by decide) (by kernel_rfl) (by kernel_rfl) (fun _ _ h => h) (by rw [hsz]; kernel_rfl) (fun _ => rfl)
    · exact owes_no 21 false true (by decide) (by kernel_rfl) (by kernel_rfl) (fun _ _ h => h) (by rw [hsz]; kernel_rfl) (fun _ => rfl)
    · exact owes_no 21 false true (by decide) (by kernel_rfl) (by kernel_rfl) (fun _ _ h => h) (by rw [hsz]; kernel_rfl) (fun _ => rfl)
    · exact owes_no 21 false true (by decide) (by kernel_rfl) (by kernel_rfl) (fun _ _ h => h) (by rw [hsz]; kernel_rfl) (fun _ => rfl)
    · exact owes_no 21 false true (by decide) (by kernel_rfl) (by kernel_rfl) (fun _ _ h => h) (by rw [hsz]; kernel_rfl) (fun _ => rfl)
    · exact owes_no 21 false true (by decide) (by kernel_rfl) (by kernel_rfl) (fun _ _ h => h) (by rw [hsz]; kernel_rfl) (fun _ => rfl)
    · exact owes_no 21 false true (by decide) (by kernel_rfl) (by kernel_rfl) (fun _ _ h => h) (by rw [hsz]; kernel_rfl) (fun _ => rfl)
    · exact owes_no 21 false true (by decide) (by kernel_rfl) (by kernel_rfl) (fun _ _ h => h) (by rw [hsz]; kernel_rfl) (fun _ => rfl)
    · exact owes_no 21 false true (by decide) (by kernel_rfl) (by kernel_rfl) (fun _ _ h => h) (by rw [hsz]; kernel_rfl) (fun _ => rfl)
    · exact owes_no 21 false true (by decide) (by kernel_rfl) (by kernel_rfl) (fun _ _ h => h) (by rw [hsz]; kernel_rfl) (fun _ => rfl)
    · exact owes_no 21 false true (by decide) (by kernel_rfl) (by kernel_rfl) (fun _ _ h => h) (by rw [hsz]; kernel_rfl) (fun _ => rfl)
    · exact owes_no 21 false true (by decide) (by kernel_rfl) (by kernel_rfl) (fun _ _ h => h) (by rw [hsz]; kernel_rfl) (fun _ => rfl)
    · exact owes_no 21 false true (by decide) (by kernel_rfl) (by kernel_rfl) (fun _ _ h => h) (by rw [hsz]; kernel_rfl) (fun _ => rfl)
    · exact owes_no 21 false true (by decide) (by kernel_rfl) (by kernel_rfl) (fun _ _ h => h) (by rw [hsz]; kernel_rfl) (fun _ => rfl)
    · exact owes_no 21 false true (by decide) (by kernel_rfl) (by kernel_rfl) (fun _ _ h => h) (by rw [hsz]; kernel_rfl) (fun _ => rfl)
    · refine owes_v (Go.Op.pick (Go.Operand.tmp 24) (Go.Operand.tmp 42) (Go.Operand.const (Go.Value.bool false))) 4 [21, 39] (by kernel_rfl) (by kernel_rfl) (by kernel_rfl) rfl fun vals w1 ρ hG hF hρ hcst hfun => ?_
      have e24 : ρ (.tmp 24) = .bool false := ((hρ 24).trans (slotJ [21, 39] (by rw [hsz]; decide) (by kernel_rfl))).trans (hF 21 (by decide))
      have e42 : ρ (.tmp 42) = undef := ((hρ 42).trans (slotJ [21, 39] (by rw [hsz]; decide) (by kernel_rfl))).trans (hF 39 (by decide))
      clear hρ hF hfun sl0 fin
      exact opv_val (by go_simp <;> rfl) ⟨gw_self _, rfl⟩
    · exact owes_mvj 40 43 (by kernel_rfl) (by kernel_rfl) (by kernel_rfl) (by kernel_rfl) (by rw [hsz]; decide) (fun v w h => h)
  · intro vals w1 hG hF
    exact fin vals w1 hG (hF 41 (by decide +kernel))
theorem dn_eq (Q : Exit → Act → World → Prop) (a0 : Act) (w : World) (Pb X N M oc c2 : Nat) (oA A2 : Option Addr) (sc tp : Int) (hP : Pb < w.heap.size) (hX : X < w.heap.size) (hN : N < w.heap.size) (p0 : w.cell? ⟨Pb, 0, none⟩ = some (.pointer (some ⟨X, 0, none⟩))) (p1 : w.cell? ⟨Pb, 1, none⟩ = some (.slice A2 M c2)) (p2 : w.cell? ⟨Pb, 2, none⟩ = some (.slice oA M oc)) (x5 : w.cell? ⟨X, 5, none⟩ = some (.bool false)) (x4 : w.cell? ⟨X, 4, none⟩ = some (.int .i64 sc)) (x1 : w.cell? ⟨X, 1, none⟩ = some (.pointer (some ⟨N, 0, none⟩))) (n2 : w.cell? ⟨N, 2, none⟩ = some (.int .i64 tp)) (hsz : a0.tmps.size = 44) (sl0 : a0.tmps.getD 0 undef = .pointer (some ⟨Pb, 0, none⟩))
    (fin : ∀ (vals : Nat → Value) (w1 : World), Below w.heap.size w w1 → (IsV (.bool (decide (tp ≤ sc)))) (vals 41) w1 → Q .normal (putD vals [3, 4, 5, 6, 7, 8, 9, 10, 11, 12, 13, 14, 15, 16, 17, 18, 19, 20, 21, 22, 23, 24, 25, 26, 27, 28, 29, 30, 31, 32, 33, 34, 35, 36, 37, 38, 39, 40, 41, 42, 43, 2] 0 a0) w1) :
    (Code.region 1 (regIn Try.f18 1) true).wp Try.prog Q a0 w := by
  refine region_by (G := fun w w1 => Below w.heap.size w w1) [IsV (.pointer (some ⟨Pb, 0, none⟩)),
    IsV (.pointer (some ⟨Pb, 0, none⟩)),
    IsV (.pointer (some ⟨Pb, 0, none⟩)),
    IsV (.pointer (some ⟨X, 0, none⟩)),
    IsV (.pointer (some ⟨X, 0, none⟩)),
    IsV (.pointer (some ⟨X, 5, none⟩)),
    IsV (.bool false),
    IsV (.bool true),
    IsV (.bool true),
    IsV (.pointer (some ⟨Pb, 0, none⟩)),
    IsV (.pointer (some ⟨Pb, 0, none⟩)),
    IsV (.pointer (some ⟨Pb, 2, none⟩)),
    IsV (.slice oA M oc),
    IsV (.int .i64 (M : Int)),
    IsV (.pointer (some ⟨Pb, 0, none⟩)),
    IsV (.pointer (some ⟨Pb, 0, none⟩)),
    IsV (.pointer (some ⟨Pb, 1, none⟩)),
    IsV (.slice A2 M c2),
    IsV (.int .i64 (M : Int)),
    IsV (.bool true),
    IsV (.bool true),
    IsV (.bool true),
    IsV (.pointer (some ⟨Pb, 0, none⟩)),
    IsV (.pointer (some ⟨Pb, 0, none⟩)),
    IsV (.pointer (some ⟨Pb, 0, none⟩)),
    IsV (.pointer (some ⟨X, 0, none⟩)),
    IsV (.pointer (some ⟨X, 0, none⟩)),
    IsV (.pointer (some ⟨X, 4, none⟩)),
    IsV (.int .i64 sc),
    IsV (.pointer (some ⟨Pb, 0, none⟩)),
    IsV (.pointer (some ⟨Pb, 0, none⟩)),
    IsV (.pointer (some ⟨Pb, 0, none⟩)),
    IsV (.pointer (some ⟨X, 0, none⟩)),
    IsV (.pointer (some ⟨X, 0, none⟩)),
    IsV (.pointer (some ⟨X, 1, none⟩)),
    IsV (.pointer (some ⟨N, 0, none⟩)),
    IsV (.pointer (some ⟨N, 0, none⟩)),
    IsV (.pointer (some ⟨N, 2, none⟩)),
    IsV (.int .i64 tp),
    IsV (.bool (decide (tp ≤ sc))),
    IsV (.bool (decide (tp ≤ sc))),
    IsV (.bool (decide (tp ≤ sc)))]
    [3, 4, 5, 6, 7, 8, 9, 10, 11, 12, 13, 14, 15, 16, 17, 18, 19, 20, 21, 22, 23, 24, 25, 26, 27, 28, 29, 30, 31, 32, 33, 34, 35, 36, 37, 38, 39, 40, 41, 42, 43, 2] (by kernel_rfl) (Gw.drew _) Gw.trans (by rw [hsz]; kernel_rfl) (by kernel_rfl) ?_ ?_ ?_
  · intro f hf
    simp only [List.mem_cons, List.not_mem_nil, or_false] at hf
    rcases hf with rfl | rfl | rfl | rfl | rfl | rfl | rfl | rfl | rfl | rfl | rfl | rfl | rfl | rfl | rfl | rfl | rfl | rfl | rfl | rfl | rfl | rfl | rfl | rfl | rfl | rfl | rfl | rfl | rfl | rfl | rfl | rfl | rfl | rfl | rfl | rfl | rfl | rfl | rfl | rfl | rfl | rfl <;> intro v a b h g <;> first | exact IsV.mono h
  · refine ⟨?_, ?_, ?_, ?_, ?_, ?_, ?_, ?_, ?_, ?_, ?_, ?_, ?_, ?_, ?_, ?_, ?_, ?_, ?_, ?_, ?_, ?_, ?_, ?_, ?_, ?_, ?_, ?_, ?_, ?_, ?_, ?_, ?_, ?_, ?_, ?_, ?_, ?_, ?_, ?_, ?_, ?_, trivial⟩
    · exact owes_mv 0 (by kernel_rfl) (by kernel_rfl) (by kernel_rfl) sl0 (fun _ => rfl)
    · refine owes_v (Go.Op.nilCheck (Go.Operand.tmp 3)) 0 [0] (by kernel_rfl) (by kernel_rfl) (by kernel_rfl) rfl fun vals w1 ρ hG hF hρ hcst hfun => ?_
      have e3 : ρ (.tmp 3) = .pointer (some ⟨Pb, 0, none⟩) := ((hρ 3).trans (slotJ [0] (by rw [hsz]; decide) (by kernel_rfl))).trans (hF 0 (by decide))
      clear hρ hF hcst hfun sl0 fin
      exact opv_val (by go_simp <;> rfl) ⟨gw_self _, rfl⟩
    · refine owes_v (Go.Op.fieldAddr 41 (Go.Operand.tmp 4) 0) 0 [1] (by kernel_rfl) (by kernel_rfl) (by kernel_rfl) rfl fun vals w1 ρ hG hF hρ hcst hfun => ?_
      have e4 : ρ (.tmp 4) = .pointer (some ⟨Pb, 0, none⟩) := ((hρ 4).trans (slotJ [1] (by rw [hsz]; decide) (by kernel_rfl))).trans (hF 1 (by decide))
      clear hρ hF hcst hfun sl0 fin
      exact opv_val (by go_simp <;> rfl) ⟨gw_self _, rfl⟩
    · refine owes_v (Go.Op.load 38 (Go.Operand.tmp 5)) 38 [2] (by kernel_rfl) (by kernel_rfl) (by kernel_rfl) rfl fun vals w1 ρ hG hF hρ hcst hfun => ?_
      have e5 : ρ (.tmp 5) = .pointer (some ⟨Pb, 0, none⟩) := ((hρ 5).trans (slotJ [2] (by rw [hsz]; decide) (by kernel_rfl))).trans (hF 2 (by decide))
      have k := (hG.cell (p := ⟨Pb, 0, none⟩) hP).trans p0
      clear hρ hF hcst hfun sl0 fin
      exact opv_val (by go_simp <;> rfl) ⟨gw_self _, rfl⟩
    · refine owes_v (Go.Op.nilCheck (Go.Operand.tmp 6)) 0 [3] (by kernel_rfl) (by kernel_rfl) (by kernel_rfl) rfl fun vals w1 ρ hG hF hρ hcst hfun => ?_
      have e6 : ρ (.tmp 6) = .pointer (some ⟨X, 0, none⟩) := ((hρ 6).trans (slotJ [3] (by rw [hsz]; decide) (by kernel_rfl))).trans (hF 3 (by decide))
      clear hρ hF hcst hfun sl0 fin
      exact opv_val (by go_simp <;> rfl) ⟨gw_self _, rfl⟩
    · refine owes_v (Go.Op.fieldAddr 49 (Go.Operand.tmp 7) 5) 0 [4] (by kernel_rfl) (by kernel_rfl) (by kernel_rfl) rfl fun vals w1 ρ hG hF hρ hcst hfun => ?_
      have e7 : ρ (.tmp 7) = .pointer (some ⟨X, 0, none⟩) := ((hρ 7).trans (slotJ [4] (by rw [hsz]; decide) (by kernel_rfl))).trans (hF 4 (by decide))
      clear hρ hF hcst hfun sl0 fin
      exact opv_val (by go_simp <;> rfl) ⟨gw_self _, rfl⟩
    · refine owes_v (Go.Op.load 4 (Go.Operand.tmp 8)) 4 [5] (by kernel_rfl) (by kernel_rfl) (by kernel_rfl) rfl fun vals w1 ρ hG hF hρ hcst hfun => ?_
      have e8 : ρ (.tmp 8) = .pointer (some ⟨X, 5, none⟩) := ((hρ 8).trans (slotJ [5] (by rw [hsz]; decide) (by kernel_rfl))).trans (hF 5 (by decide))
      have k := (hG.cell (p := ⟨X, 5, none⟩) hX).trans x5
      clear hρ hF hcst hfun sl0 fin
      exact opv_val (by go_simp <;> rfl) ⟨gw_self _, rfl⟩
    · refine owes_v (Go.Op.unOp Go.UnOp.not 4 (Go.Operand.tmp 9)) 4 [6] (by kernel_rfl) (by kernel_rfl) (by kernel_rfl) rfl fun vals w1 ρ hG hF hρ hcst hfun => ?_
      have e9 : ρ (.tmp 9) = .bool false := ((hρ 9).trans (slotJ [6] (by rw [hsz]; decide) (by kernel_rfl))).trans (hF 6 (by decide))
      clear hρ hF hcst hfun sl0 fin
      exact opv_val (by go_simp <;> rfl) ⟨gw_self _, rfl⟩
    · exact owes_mvj 7 10 (by kernel_rfl) (by kernel_rfl) (by kernel_rfl) (by kernel_rfl) (by rw [hsz]; decide) (fun v w h => h)
    · refine owes_vt 8 true (Go.Op.move (Go.Operand.tmp 0)) 37 [] (by kernel_rfl) (by kernel_rfl) (by kernel_rfl) (fun _ _ h => h) (by rw [hsz]; kernel_rfl) (by kernel_rfl) rfl fun vals w1 ρ hG hF hρ hcst hfun => ?_
      have e0 : ρ (.tmp 0) = .pointer (some ⟨Pb, 0, none⟩) := ((hρ 0).trans (slotO [] (by kernel_rfl))).trans sl0
      clear hρ hF hcst hfun sl0 fin
      exact opv_val (by go_simp <;> rfl) ⟨gw_self _, rfl⟩
    · refine owes_vt 8 true (Go.Op.nilCheck (Go.Operand.tmp 12)) 0 [9] (by kernel_rfl) (by kernel_rfl) (by kernel_rfl) (fun _ _ h => h) (by rw [hsz]; kernel_rfl) (by kernel_rfl) rfl fun vals w1 ρ hG hF hρ hcst hfun => ?_
      have e12 : ρ (.tmp 12) = .pointer (some ⟨Pb, 0, none⟩) := ((hρ 12).trans (slotJ [9] (by rw [hsz]; decide) (by kernel_rfl))).trans (hF 9 (by decide))
      clear hρ hF hcst hfun sl0 fin
      exact opv_val (by go_simp <;> rfl) ⟨gw_self _, rfl⟩
    · refine owes_vt 8 true (Go.Op.fieldAddr 41 (Go.Operand.tmp 13) 2) 0 [10] (by kernel_rfl) (by kernel_rfl) (by kernel_rfl) (fun _ _ h => h) (by rw [hsz]; kernel_rfl) (by kernel_rfl) rfl fun vals w1 ρ hG hF hρ hcst hfun => ?_
      have e13 : ρ (.tmp 13) = .pointer (some ⟨Pb, 0, none⟩) := ((hρ 13).trans (slotJ [10] (by rw [hsz]; decide) (by kernel_rfl))).trans (hF 10 (by decide))
      clear hρ hF hcst hfun sl0 fin
      exact opv_val (by go_simp <;> rfl) ⟨gw_self _, rfl⟩
    · refine owes_vt 8 true (Go.Op.load 23 (Go.Operand.tmp 14)) 23 [11] (by kernel_rfl) (by kernel_rfl) (by kernel_rfl) (fun _ _ h => h) (by rw [hsz]; kernel_rfl) (by kernel_rfl) rfl fun vals w1 ρ hG hF hρ hcst hfun => ?_
      have e14 : ρ (.tmp 14) = .pointer (some ⟨Pb, 2, none⟩) := ((hρ 14).trans (slotJ [11] (by rw [hsz]; decide) (by kernel_rfl))).trans (hF 11 (by decide))
      have k := (hG.cell (p := ⟨Pb, 2, none⟩) hP).trans p2
      clear hρ hF hcst hfun sl0 fin
      exact opv_val (by go_simp <;> rfl) ⟨gw_self _, rfl⟩
    · refine owes_vt 8 true (Go.Op.call { callee := Go.Callee.builtin Go.Builtin.len, args := #[Go.Operand.tmp 15], argTypes := #[23] }) 3 [12] (by kernel_rfl) (by kernel_rfl) (by kernel_rfl) (fun _ _ h => h) (by rw [hsz]; kernel_rfl) (by kernel_rfl) rfl fun vals w1 ρ hG hF hρ hcst hfun => ?_
      have e15 : ρ (.tmp 15) = .slice oA M oc := ((hρ 15).trans (slotJ [12] (by rw [hsz]; decide) (by kernel_rfl))).trans (hF 12 (by decide))
      clear hρ hF hcst hfun sl0 fin
      exact opv_val (by go_simp <;> rfl) ⟨gw_self _, rfl⟩
    · refine owes_vt 8 true (Go.Op.move (Go.Operand.tmp 0)) 37 [] (by kernel_rfl) (by kernel_rfl) (by kernel_rfl) (fun _ _ h => h) (by rw [hsz]; kernel_rfl) (by kernel_rfl) rfl fun vals w1 ρ hG hF hρ hcst hfun => ?_
      have e0 : ρ (.tmp 0) = .pointer (some ⟨Pb, 0, none⟩) := ((hρ 0).trans (slotO [] (by kernel_rfl))).trans sl0
      clear hρ hF hcst hfun sl0 fin
      exact opv_val (by go_simp <;> rfl) ⟨gw_self _, rfl⟩
    · refine owes_vt 8 true (Go.Op.nilCheck (Go.Operand.tmp 17)) 0 [14] (by kernel_rfl) (by kernel_rfl) (by kernel_rfl) (fun _ _ h => h) (by rw [hsz]; kernel_rfl) (by kernel_rfl) rfl fun vals w1 ρ hG hF hρ hcst hfun => ?_
      have e17 : ρ (.tmp 17) = .pointer (some ⟨Pb, 0, none⟩) := ((hρ 17).trans (slotJ [14] (by rw [hsz]; decide) (by kernel_rfl))).trans (hF 14 (by decide))
      clear hρ hF hcst hfun sl0 fin
      exact opv_val (by go_simp <;> rfl) ⟨gw_self _, rfl⟩
    · refine owes_vt 8 true (Go.Op.fieldAddr 41 (Go.Operand.tmp 18) 1) 0 [15] (by kernel_rfl) (by kernel_rfl) (by kernel_rfl) (fun _ _ h => h) (by rw [hsz]; kernel_rfl) (by kernel_rfl) rfl fun vals w1 ρ hG hF hρ hcst hfun => ?_
      have e18 : ρ (.tmp 18) = .pointer (some ⟨Pb, 0, none⟩) := ((hρ 18).trans (slotJ [15] (by rw [hsz]; decide) (by kernel_rfl))).trans (hF 15 (by decide))
      clear hρ hF hcst hfun sl0 fin
      exact opv_val (by go_simp <;> rfl) ⟨gw_self _, rfl⟩
    · refine owes_vt 8 true (Go.Op.load 23 (Go.Operand.tmp 19)) 23 [16] (by kernel_rfl) (by kernel_rfl) (by kernel_rfl) (fun _ _ h => h) (by rw [hsz]; kernel_rfl) (by kernel_rfl) rfl fun vals w1 ρ hG hF hρ hcst hfun => ?_
      have e19 : ρ (.tmp 19) = .pointer (some ⟨Pb, 1, none⟩) := ((hρ 19).trans (slotJ [16] (by rw [hsz]; decide) (by kernel_rfl))).trans (hF 16 (by decide))
      have k := (hG.cell (p := ⟨Pb, 1, none⟩) hP).trans p1
      clear hρ hF hcst hfun sl0 fin
      exact opv_val (by go_simp <;> rfl) ⟨gw_self _, rfl⟩
    · refine owes_vt 8 true (Go.Op.call { callee := Go.Callee.builtin Go.Builtin.len, args := #[Go.Operand.tmp 20], argTypes := #[23] }) 3 [17] (by kernel_rfl) (by kernel_rfl) (by kernel_rfl) (fun _ _ h => h) (by rw [hsz]; kernel_rfl) (by kernel_rfl) rfl fun vals w1 ρ hG hF hρ hcst hfun => ?_
      have e20 : ρ (.tmp 20) = .slice A2 M c2 := ((hρ 20).trans (slotJ [17] (by rw [hsz]; decide) (by kernel_rfl))).trans (hF 17 (by decide))
      clear hρ hF hcst hfun sl0 fin
      exact opv_val (by go_simp <;> rfl) ⟨gw_self _, rfl⟩
    · refine owes_vt 8 true (Go.Op.binOp Go.BinOp.eql 3 (Go.Operand.tmp 16) (Go.Operand.tmp 21) 3) 4 [13, 18] (by kernel_rfl) (by kernel_rfl) (by kernel_rfl) (fun _ _ h => h) (by rw [hsz]; kernel_rfl) (by kernel_rfl) rfl fun vals w1 ρ hG hF hρ hcst hfun => ?_
      have e16 : ρ (.tmp 16) = .int .i64 (M : Int) := ((hρ 16).trans (slotJ [13, 18] (by rw [hsz]; decide) (by kernel_rfl))).trans (hF 13 (by decide))
      have e21 : ρ (.tmp 21) = .int .i64 (M : Int) := ((hρ 21).trans (slotJ [13, 18] (by rw [hsz]; decide) (by kernel_rfl))).trans (hF 18 (by decide))
      clear hρ hF hcst hfun sl0 fin
      exact opv_val (by go_simp <;> rfl) ⟨gw_self _, rfl⟩
    · refine owes_v (Go.Op.pick (Go.Operand.tmp 11) (Go.Operand.tmp 22) (Go.Operand.const (Go.Value.bool false))) 4 [8, 19] (by kernel_rfl) (by kernel_rfl) (by kernel_rfl) rfl fun vals w1 ρ hG hF hρ hcst hfun => ?_
      have e11 : ρ (.tmp 11) = .bool true := ((hρ 11).trans (slotJ [8, 19] (by rw [hsz]; decide) (by kernel_rfl))).trans (hF 8 (by decide))
      have e22 : ρ (.tmp 22) = .bool true := ((hρ 22).trans (slotJ [8, 19] (by rw [hsz]; decide) (by kernel_rfl))).trans (hF 19 (by decide))
      clear hρ hF hfun sl0 fin
      exact opv_val (by go_simp <;> rfl) ⟨gw_self _, rfl⟩
    · exact owes_mvj 20 23 (by kernel_rfl) (by kernel_rfl) (by kernel_rfl) (by kernel_rfl) (by rw [hsz]; decide) (fun v w h => h)
    · refine owes_vt 21 true (Go.Op.move (Go.Operand.tmp 0)) 37 [] (by kernel_rfl) (by kernel_rfl) (by kernel_rfl) (fun _ _ h => h) (by rw [hsz]; kernel_rfl) (by kernel_rfl) rfl fun vals w1 ρ hG hF hρ hcst hfun => ?_
      have e0 : ρ (.tmp 0) = .pointer (some ⟨Pb, 0, none⟩) := ((hρ 0).trans (slotO [] (by kernel_rfl))).trans sl0
      clear hρ hF hcst hfun sl0 fin
      exact opv_val (by go_simp <;> rfl) ⟨gw_self _, rfl⟩
    · refine owes_vt 21 true (Go.Op.nilCheck (Go.Operand.tmp 25)) 0 [22] (by kernel_rfl) (by kernel_rfl) (by kernel_rfl) (fun _ _ h => h) (by rw [hsz]; kernel_rfl) (by kernel_rfl) rfl fun vals w1 ρ hG hF hρ hcst hfun => ?_
      have e25 : ρ (.tmp 25) = .pointer (some ⟨Pb, 0, none⟩) := ((hρ 25).trans (slotJ [22] (by rw [hsz]; decide) (by kernel_rfl))).trans (hF 22 (by decide))
      clear hρ hF hcst hfun sl0 fin
      exact opv_val (by go_simp <;> rfl) ⟨gw_self _, rfl⟩
    · refine owes_vt 21 true (Go.Op.fieldAddr 41 (Go.Operand.tmp 26) 0) 0 [23] (by kernel_rfl) (by kernel_rfl) (by kernel_rfl) (fun _ _ h => h) (by rw [hsz]; kernel_rfl) (by kernel_rfl) rfl fun vals w1 ρ hG hF hρ hcst hfun => ?_
      have e26 : ρ (.tmp 26) = .pointer (some ⟨Pb, 0, none⟩) := ((hρ 26).trans (slotJ [23] (by rw [hsz]; decide) (by kernel_rfl))).trans (hF 23 (by decide))
      clear hρ hF hcst hfun sl0 fin
      exact opv_val (by go_simp <;> rfl) ⟨gw_self _, rfl⟩
    · refine owes_vt 21 true (Go.Op.load 38 (Go.Operand.tmp 27)) 38 [24] (by kernel_rfl) (by kernel_rfl) (by kernel_rfl) (fun _ _ h => h) (by rw [hsz]; kernel_rfl) (by kernel_rfl) rfl fun vals w1 ρ hG hF hρ hcst hfun => ?_
      have e27 : ρ (.tmp 27) = .pointer (some ⟨Pb, 0, none⟩) := ((hρ 27).trans (slotJ [24] (by rw [hsz]; decide) (by kernel_rfl))).trans (hF 24 (by decide))
      have k := (hG.cell (p := ⟨Pb, 0, none⟩) hP).trans p0
      clear hρ hF hcst hfun sl0 fin
      exact opv_val (by go_simp <;> rfl) ⟨gw_self _, rfl⟩
    · refine owes_vt 21 true (Go.Op.nilCheck (Go.Operand.tmp 28)) 0 [25] (by kernel_rfl) (by kernel_rfl) (by kernel_rfl) (fun _ _ h => h) (by rw [hsz]; kernel_rfl) (by kernel_rfl) rfl fun vals w1 ρ hG hF hρ hcst hfun => ?_
      have e28 : ρ (.tmp 28) = .pointer (some ⟨X, 0, none⟩) := ((hρ 28).trans (slotJ [25] (by rw [hsz]; decide) (by kernel_rfl))).trans (hF 25 (by decide))
      clear hρ hF hcst hfun sl0 fin
      exact opv_val (by go_simp <;> rfl) ⟨gw_self _, rfl⟩
    · refine owes_vt 21 true (Go.Op.fieldAddr 49 (Go.Operand.tmp 29) 4) 0 [26] (by kernel_rfl) (by kernel_rfl) (by kernel_rfl) (fun _ _ h => h) (by rw [hsz]; kernel_rfl) (by kernel_rfl) rfl fun vals w1 ρ hG hF hρ hcst hfun => ?_
      have e29 : ρ (.tmp 29) = .pointer (some ⟨X, 0, none⟩) := ((hρ 29).trans (slotJ [26] (by rw [hsz]; decide) (by kernel_rfl))).trans (hF 26 (by decide))
      clear hρ hF hcst hfun sl0 fin
      exact opv_val (by go_simp <;> rfl) ⟨gw_self _, rfl⟩
    · refine owes_vt 21 true (Go.Op.load 3 (Go.Operand.tmp 30)) 3 [27] (by kernel_rfl) (by kernel_rfl) (by kernel_rfl) (fun _ _ h => h) (by rw [hsz]; kernel_rfl) (by kernel_rfl) rfl fun vals w1 ρ hG hF hρ hcst hfun => ?_
      have e30 : ρ (.tmp 30) = .pointer (some ⟨X, 4, none⟩) := ((hρ 30).trans (slotJ [27] (by rw [hsz]; decide) (by kernel_rfl))).trans (hF 27 (by decide))
      have k := (hG.cell (p := ⟨X, 4, none⟩) hX).trans x4
      clear hρ hF hcst hfun sl0 fin
      exact opv_val (by go_simp <;> rfl) ⟨gw_self _, rfl⟩
    · refine owes_vt 21 true (Go.Op.move (Go.Operand.tmp 0)) 37 [] (by kernel_rfl) (by kernel_rfl) (by kernel_rfl) (fun _ _ h => h) (by rw [hsz]; kernel_rfl) (by kernel_rfl) rfl fun vals w1 ρ hG hF hρ hcst hfun => ?_
      have e0 : ρ (.tmp 0) = .pointer (some ⟨Pb, 0, none⟩) := ((hρ 0).trans (slotO [] (by kernel_rfl))).trans sl0
      clear hρ hF hcst hfun sl0 fin
      exact opv_val (by go_simp <;> rfl) ⟨gw_self _, rfl⟩
    · refine owes_vt 21 true (Go.Op.nilCheck (Go.Operand.tmp 32)) 0 [29] (by kernel_rfl) (by kernel_rfl) (by kernel_rfl) (fun _ _ h => h) (by rw [hsz]; kernel_rfl) (by kernel_rfl) rfl fun vals w1 ρ hG hF hρ hcst hfun => ?_
      have e32 : ρ (.tmp 32) = .pointer (some ⟨Pb, 0, none⟩) := ((hρ 32).trans (slotJ [29] (by rw [hsz]; decide) (by kernel_rfl))).trans (hF 29 (by decide))
      clear hρ hF hcst hfun sl0 fin
      exact opv_val (by go_simp <;> rfl) ⟨gw_self _, rfl⟩
    · refine owes_vt 21 true (Go.Op.fieldAddr 41 (Go.Operand.tmp 33) 0) 0 [30] (by kernel_rfl) (by kernel_rfl) (by kernel_rfl) (fun _ _ h => h) (by rw [hsz]; kernel_rfl) (by kernel_rfl) rfl fun vals w1 ρ hG hF hρ hcst hfun => ?_
      have e33 : ρ (.tmp 33) = .pointer (some ⟨Pb, 0, none⟩) := ((hρ 33).trans (slotJ [30] (by rw [hsz]; decide) (by kernel_rfl))).trans (hF 30 (by decide))
      clear hρ hF hcst hfun sl0 fin
      exact opv_val (by go_simp <;> rfl) ⟨gw_self _, rfl⟩
    · refine owes_vt 21 true (Go.Op.load 38 (Go.Operand.tmp 34)) 38 [31] (by kernel_rfl) (by kernel_rfl) (by kernel_rfl) (fun _ _ h => h) (by rw [hsz]; kernel_rfl) (by kernel_rfl) rfl fun vals w1 ρ hG hF hρ hcst hfun => ?_
      have e34 : ρ (.tmp 34) = .pointer (some ⟨Pb, 0, none⟩) := ((hρ 34).trans (slotJ [31] (by rw [hsz]; decide) (by kernel_rfl))).trans (hF 31 (by decide))
      have k := (hG.cell (p := ⟨Pb, 0, none⟩) hP).trans p0
      clear hρ hF hcst hfun sl0 fin
      exact opv_val (by go_simp <;> rfl) ⟨gw_self _, rfl⟩
    · refine owes_vt 21 true (Go.Op.nilCheck (Go.Operand.tmp 35)) 0 [32] (by kernel_rfl) (by kernel_rfl) (by kernel_rfl) (fun _ _ h => h) (by rw [hsz]; kernel_rfl) (by kernel_rfl) rfl fun vals w1 ρ hG hF hρ hcst hfun => ?_
      have e35 : ρ (.tmp 35) = .pointer (some ⟨X, 0, none⟩) := ((hρ 35).trans (slotJ [32] (by rw [hsz]; decide) (by kernel_rfl))).trans (hF 32 (by decide))
      clear hρ hF hcst hfun sl0 fin
      exact opv_val (by go_simp <;> rfl) ⟨gw_self _, rfl⟩
    · refine owes_vt 21 true (Go.Op.fieldAddr 49 (Go.Operand.tmp 36) 1) 0 [33] (by kernel_rfl) (by kernel_rfl) (by kernel_rfl) (fun _ _ h => h) (by rw [hsz]; kernel_rfl) (by kernel_rfl) rfl fun vals w1 ρ hG hF hρ hcst hfun => ?_
      have e36 : ρ (.tmp 36) = .pointer (some ⟨X, 0, none⟩) := ((hρ 36).trans (slotJ [33] (by rw [hsz]; decide) (by kernel_rfl))).trans (hF 33 (by decide))
      clear hρ hF hcst hfun sl0 fin
      exact opv_val (by go_simp <;> rfl) ⟨gw_self _, rfl⟩
    · refine owes_vt 21 true (Go.Op.load 28 (Go.Operand.tmp 37)) 28 [34] (by kernel_rfl) (by kernel_rfl) (by kernel_rfl) (fun _ _ h => h) (by rw [hsz]; kernel_rfl) (by kernel_rfl) rfl fun vals w1 ρ hG hF hρ hcst hfun => ?_
      have e37 : ρ (.tmp 37) = .pointer (some ⟨X, 1, none⟩) := ((hρ 37).trans (slotJ [34] (by rw [hsz]; decide) (by kernel_rfl))).trans (hF 34 (by decide))
      have k := (hG.cell (p := ⟨X, 1, none⟩) hX).trans x1
      clear hρ hF hcst hfun sl0 fin
      exact opv_val (by go_simp <;> rfl) ⟨gw_self _, rfl⟩
    · refine owes_vt 21 true (Go.Op.nilCheck (Go.Operand.tmp 38)) 0 [35] (by kernel_rfl) (by kernel_rfl) (by kernel_rfl) (fun _ _ h => h) (by rw [hsz]; kernel_rfl) (by kernel_rfl) rfl fun vals w1 ρ hG hF hρ hcst hfun => ?_
      have e38 : ρ (.tmp 38) = .pointer (some ⟨N, 0, none⟩) := ((hρ 38).trans (slotJ [35] (by rw [hsz]; decide) (by kernel_rfl))).trans (hF 35 (by decide))
      clear hρ hF hcst hfun sl0 fin
      exact opv_val (by go_simp <;> rfl) ⟨gw_self _, rfl⟩
    · refine owes_vt 21 true (Go.Op.fieldAddr 30 (Go.Operand.tmp 39) 2) 0 [36] (by kernel_rfl) (by kernel_rfl) (by kernel_rfl) (fun _ _ h => h) (by rw [hsz]; kernel_rfl) (by kernel_rfl) rfl fun vals w1 ρ hG hF hρ hcst hfun => ?_
      have e39 : ρ (.tmp 39) = .pointer (some ⟨N, 0, none⟩) := ((hρ 39).trans (slotJ [36] (by rw [hsz]; decide) (by kernel_rfl))).trans (hF 36 (by decide))
      clear hρ hF hcst hfun sl0 fin
      exact opv_val (by go_simp <;> rfl) ⟨gw_self _, rfl⟩
    · refine owes_vt 21 true (Go.Op.load 3 (Go.Operand.tmp 40)) 3 [37] (by kernel_rfl) (by kernel_rfl) (by kernel_rfl) (fun _ _ h => h) (by rw [hsz]; kernel_rfl) (by kernel_rfl) rfl fun vals w1 ρ hG hF hρ hcst hfun => ?_
      have e40 : ρ (.tmp 40) = .pointer (some ⟨N, 2, none⟩) := ((hρ 40).trans (slotJ [37] (by rw [hsz]; decide) (by kernel_rfl))).trans (hF 37 (by decide))
      have k := (hG.cell (p := ⟨N, 2, none⟩) hN).trans n2
      clear hρ hF hcst hfun sl0 fin
      exact opv_val (by go_simp <;> rfl) ⟨gw_self _, rfl⟩
    · refine owes_vt 21 true (Go.Op.binOp Go.BinOp.geq 3 (Go.Operand.tmp 31) (Go.Operand.tmp 41) 3) 4 [28, 38] (by kernel_rfl) (by kernel_rfl) (by kernel_rfl) (fun _ _ h => h) (by rw [hsz]; kernel_rfl) (by kernel_rfl) rfl fun vals w1 ρ hG hF hρ hcst hfun => ?_
      have e31 : ρ (.tmp 31) = .int .i64 sc := ((hρ 31).trans (slotJ [28, 38] (by rw [hsz]; decide) (by kernel_rfl))).trans (hF 28 (by decide))
      have e41 : ρ (.tmp 41) = .int .i64 tp := ((hρ 41).trans (slotJ [28, 38] (by rw [hsz]; decide) (by kernel_rfl))).trans (hF 38 (by decide))
      clear hρ hF hcst hfun sl0 fin
      exact opv_val (by go_simp <;> rfl) ⟨gw_self _, rfl⟩
    · refine owes_v (Go.Op.pick (Go.Operand.tmp 24) (Go.Operand.tmp 42) (Go.Operand.const (Go.Value.bool false))) 4 [21, 39] (by kernel_rfl) (by kernel_rfl) (by kernel_rfl) rfl fun vals w1 ρ hG hF hρ hcst hfun => ?_
      have e24 : ρ (.tmp 24) = .bool true := ((hρ 24).trans (slotJ [21, 39] (by rw [hsz]; decide) (by kernel_rfl))).trans (hF 21 (by decide))
      have e42 : ρ (.tmp 42) = .bool (decide (tp ≤ sc)) := ((hρ 42).trans (slotJ [21, 39] (by rw [hsz]; decide) (by kernel_rfl))).trans (hF 39 (by decide))
      clear hρ hF hfun sl0 fin
      exact opv_val (by go_simp <;> rfl) ⟨gw_self _, rfl⟩
    · exact owes_mvj 40 43 (by kernel_rfl) (by kernel_rfl) (by kernel_rfl) (by kernel_rfl) (by rw [hsz]; decide) (fun v w h => h)
  · intro vals w1 hG hF
    exact fin vals w1 hG (hF 41 (by decide +kernel))
theorem po0 (Q : Exit → Act → World → Prop) (a0 : Act) (w : World) (Pb k M oc c2 : Nat) (oA A2 : Option Addr) (r : Bool) (hP : Pb < w.heap.size) (p1 : w.cell? ⟨Pb, 1, none⟩ = some (.slice A2 M c2)) (p2 : w.cell? ⟨Pb, 2, none⟩ = some (.slice oA k oc)) (hr : decide ((k : Int) < (M : Int)) = r) (hsz : a0.tmps.size = 45) (sl0 : a0.tmps.getD 0 undef = .pointer (some ⟨Pb, 0, none⟩))
    (fin : ∀ (vals : Nat → Value) (w1 : World), Below w.heap.size w w1 → (IsV (.bool r)) (vals 10) w1 → Q .normal (putD vals [2, 3, 4, 5, 6, 7, 8, 9, 10, 11, 12] 0 a0) w1) :
    (Code.region 0 (regIn Try.f16 0) true).wp Try.prog Q a0 w := by
  refine region_by (G := fun w w1 => Below w.heap.size w w1) [IsV (.pointer (some ⟨Pb, 0, none⟩)),
    IsV (.pointer (some ⟨Pb, 0, none⟩)),
    IsV (.pointer (some ⟨Pb, 2, none⟩)),
    IsV (.slice oA k oc),
    IsV (.int .i64 (k : Int)),
    IsV (.pointer (some ⟨Pb, 0, none⟩)),
    IsV (.pointer (some ⟨Pb, 0, none⟩)),
    IsV (.pointer (some ⟨Pb, 1, none⟩)),
    IsV (.slice A2 M c2),
    IsV (.int .i64 (M : Int)),
    IsV (.bool r)]
    [2, 3, 4, 5, 6, 7, 8, 9, 10, 11, 12] (by kernel_rfl) (Gw.drew _) Gw.trans (by rw [hsz]; kernel_rfl) (by kernel_rfl) ?_ ?_ ?_
  · intro f hf
    simp only [List.mem_cons, List.not_mem_nil, or_false] at hf
    rcases hf with rfl | rfl | rfl | rfl | rfl | rfl | rfl | rfl | rfl | rfl | rfl <;> intro v a b h g <;> first | exact IsV.mono h
  · refine ⟨?_, ?_, ?_, ?_, ?_, ?_, ?_, ?_, ?_, ?_, ?_, trivial⟩
    · exact owes_mv 0 (by kernel_rfl) (by kernel_rfl) (by kernel_rfl) sl0 (fun _ => rfl)
    · refine owes_v (Go.Op.nilCheck (Go.Operand.tmp 2)) 0 [0] (by kernel_rfl) (by kernel_rfl) (by kernel_rfl) rfl fun vals w1 ρ hG hF hρ hcst hfun => ?_
      have e2 : ρ (.tmp 2) = .pointer (some ⟨Pb, 0, none⟩) := ((hρ 2).trans (slotJ [0] (by rw [hsz]; decide) (by kernel_rfl))).trans (hF 0 (by decide))
      clear hρ hF hcst hfun sl0 fin
      exact opv_val (by go_simp <;> rfl) ⟨gw_self _, rfl⟩
    · refine owes_v (Go.Op.fieldAddr 41 (Go.Operand.tmp 3) 2) 0 [1] (by kernel_rfl) (by kernel_rfl) (by kernel_rfl) rfl fun vals w1 ρ hG hF hρ hcst hfun => ?_
      have e3 : ρ (.tmp 3) = .pointer (some ⟨Pb, 0, none⟩) := ((hρ 3).trans (slotJ [1] (by rw [hsz]; decide) (by kernel_rfl))).trans (hF 1 (by decide))
      clear hρ hF hcst hfun sl0 fin
      exact opv_val (by go_simp <;> rfl) ⟨gw_self _, rfl⟩
    · refine owes_v (Go.Op.load 23 (Go.Operand.tmp 4)) 23 [2] (by kernel_rfl) (by kernel_rfl) (by kernel_rfl) rfl fun vals w1 ρ hG hF hρ hcst hfun => ?_
      have e4 : ρ (.tmp 4) = .pointer (some ⟨Pb, 2, none⟩) := ((hρ 4).trans (slotJ [2] (by rw [hsz]; decide) (by kernel_rfl))).trans (hF 2 (by decide))
      have k := (hG.cell (p := ⟨Pb, 2, none⟩) hP).trans p2
      clear hρ hF hcst hfun sl0 fin
      exact opv_val (by go_simp <;> rfl) ⟨gw_self _, rfl⟩
    · refine owes_v (Go.Op.call { callee := Go.Callee.builtin Go.Builtin.len, args := #[Go.Operand.tmp 5], argTypes := #[23] }) 3 [3] (by kernel_rfl) (by kernel_rfl) (by kernel_rfl) rfl fun vals w1 ρ hG hF hρ hcst hfun => ?_
      have e5 : ρ (.tmp 5) = .slice oA k oc := ((hρ 5).trans (slotJ [3] (by rw [hsz]; decide) (by kernel_rfl))).trans (hF 3 (by decide))
      clear hρ hF hcst hfun sl0 fin
      exact opv_val (by go_simp <;> rfl) ⟨gw_self _, rfl⟩
    · exact owes_mv 0 (by kernel_rfl) (by kernel_rfl) (by kernel_rfl) sl0 (fun _ => rfl)
    · refine owes_v (Go.Op.nilCheck (Go.Operand.tmp 7)) 0 [5] (by kernel_rfl) (by kernel_rfl) (by kernel_rfl) rfl fun vals w1 ρ hG hF hρ hcst hfun => ?_
      have e7 : ρ (.tmp 7) = .pointer (some ⟨Pb, 0, none⟩) := ((hρ 7).trans (slotJ [5] (by rw [hsz]; decide) (by kernel_rfl))).trans (hF 5 (by decide))
      clear hρ hF hcst hfun sl0 fin
      exact opv_val (by go_simp <;> rfl) ⟨gw_self _, rfl⟩
    · refine owes_v (Go.Op.fieldAddr 41 (Go.Operand.tmp 8) 1) 0 [6] (by kernel_rfl) (by kernel_rfl) (by kernel_rfl) rfl fun vals w1 ρ hG hF hρ hcst hfun => ?_
      have e8 : ρ (.tmp 8) = .pointer (some ⟨Pb, 0, none⟩) := ((hρ 8).trans (slotJ [6] (by rw [hsz]; decide) (by kernel_rfl))).trans (hF 6 (by decide))
      clear hρ hF hcst hfun sl0 fin
      exact opv_val (by go_simp <;> rfl) ⟨gw_self _, rfl⟩
    · refine owes_v (Go.Op.load 23 (Go.Operand.tmp 9)) 23 [7] (by kernel_rfl) (by kernel_rfl) (by kernel_rfl) rfl fun vals w1 ρ hG hF hρ hcst hfun => ?_
      have e9 : ρ (.tmp 9) = .pointer (some ⟨Pb, 1, none⟩) := ((hρ 9).trans (slotJ [7] (by rw [hsz]; decide) (by kernel_rfl))).trans (hF 7 (by decide))
      have k := (hG.cell (p := ⟨Pb, 1, none⟩) hP).trans p1
      clear hρ hF hcst hfun sl0 fin
      exact opv_val (by go_simp <;> rfl) ⟨gw_self _, rfl⟩
    · refine owes_v (Go.Op.call { callee := Go.Callee.builtin Go.Builtin.len, args := #[Go.Operand.tmp 10], argTypes := #[23] }) 3 [8] (by kernel_rfl) (by kernel_rfl) (by kernel_rfl) rfl fun vals w1 ρ hG hF hρ hcst hfun => ?_
      have e10 : ρ (.tmp 10) = .slice A2 M c2 := ((hρ 10).trans (slotJ [8] (by rw [hsz]; decide) (by kernel_rfl))).trans (hF 8 (by decide))
      clear hρ hF hcst hfun sl0 fin
      exact opv_val (by go_simp <;> rfl) ⟨gw_self _, rfl⟩
    · refine owes_v (Go.Op.binOp Go.BinOp.lss 3 (Go.Operand.tmp 6) (Go.Operand.tmp 11) 3) 4 [4, 9] (by kernel_rfl) (by kernel_rfl) (by kernel_rfl) rfl fun vals w1 ρ hG hF hρ hcst hfun => ?_
      have e6 : ρ (.tmp 6) = .int .i64 (k : Int) := ((hρ 6).trans (slotJ [4, 9] (by rw [hsz]; decide) (by kernel_rfl))).trans (hF 4 (by decide))
      have e11 : ρ (.tmp 11) = .int .i64 (M : Int) := ((hρ 11).trans (slotJ [4, 9] (by rw [hsz]; decide) (by kernel_rfl))).trans (hF 9 (by decide))
      subst hr
      clear hρ hF hcst hfun sl0 fin
      exact opv_val (by go_simp <;> rfl) ⟨gw_self _, rfl⟩
  · intro vals w1 hG hF
    exact fin vals w1 hG (hF 10 (by decide +kernel))
section
variable {S : Nat → Prop} {B X R N Pb : Nat} {rA : Option Addr} {rc : Nat} {ws : List (BitVec 64)} {b t e : Nat} {l : List Nat} {m : Nat} {A2 : Option Addr} {M c2 : Nat} {full : Bool} {s : Sc}
theorem pdone_c (w : World) (ps : List Nat) (h : PaAt S w B X R N Pb rA rc ws b t e l m A2 M c2 false s) (hM : M = ps.length) (hsi : SI ws l b t m ps s) : Calls Try.prog 18 #[.pointer (some ⟨Pb, 0, none⟩)] w (RetP (.bool (doneS ps s)) w) := by
  obtain ⟨ov, xs, h1, h2, h3, h4, h5, h6, h7⟩ := h
  obtain ⟨A, nc, hX, hN, x1, x4, x5, n0, n2, _⟩ := h1.cells
  obtain ⟨oA, oc, rfl, _⟩ := h3.form
  have hx := h7 rfl
  have hxl : xs.length = s.qs.length := by rw [hx]; simp [backZ]
  rw [hxl] at h2
  have p0 := h2.cell 0
  have p1 := h2.cell 1
  have p2 := h2.cell 2
  have hP := h2.lt
  obtain ⟨ys, _, hch⟩ := hsi.ord
  have hle := hch.le
  obtain ⟨D, hD⟩ : ∃ D, D = doneS ps s := ⟨_, rfl⟩
  rw [← hD]
  by_cases hq : s.qs.length = M
  · have hDe : D = decide ((s.c.top : Int) ≤ (s.sc : Int)) := by
      rw [hD]
      unfold doneS
      rw [decide_eq_decide]
      omega
    rw [hDe]
    rw [hq] at p2
    clear h1 h2 h3 h4 h5 h6 h7 n0 hD hDe hsi hch hle hx hxl hq
    go_enter Try.func18, Try.ntmps18
    go_wp2_with fail
    refine dn_eq _ _ _ Pb X N M oc c2 oA A2 (s.sc : Int) (s.c.top : Int) hP hX hN p0 p1 p2 x5 x4 x1 n2 rfl rfl ?_
    intro vals2 w3 hG hh
    unfold IsV at hh
    simp only [putD, Act.put, List.setIfInBounds_toArray, List.set_cons_zero, List.set_cons_succ, hh]
    have H3 := Lib.hid hG
    clear hG hh
    go_wp2_with fail
    go_ret
    exact ⟨rfl, H3.out⟩
  · have hDe : D = false := by
      rw [hD]
      unfold doneS
      exact decide_eq_false (by omega)
    rw [hDe]
    have hne : ¬ (s.qs.length : Int) = (M : Int) := by omega
    clear h1 h2 h3 h4 h5 h6 h7 n0 hD hDe hsi hch hle hx hxl hq n2
    go_enter Try.func18, Try.ntmps18
    go_wp2_with fail
    refine dn_ne _ _ _ Pb X s.qs.length M oc c2 oA A2 hP hX p0 p1 p2 x5 hne rfl rfl ?_
    intro vals2 w3 hG hh
    unfold IsV at hh
    simp only [putD, Act.put, List.setIfInBounds_toArray, List.set_cons_zero, List.set_cons_succ, hh]
    have H3 := Lib.hid hG
    clear hG hh
    go_wp2_with fail
    go_ret
    exact ⟨rfl, H3.out⟩
end
end Go.Proofs.Ytbanbpphadgoiaa
/- The document's collector: what is next, once. Conditions: right objects. -/
namespace Go.Proofs.Ytbanbpphadgoiaa
set_option linter.unusedVariables false
set_option linter.unusedSimpArgs false
open Go.RowKit Go.Maps
set_option maxHeartbeats 4000000
set_option maxRecDepth 100000
def nextO (ps : List Nat) (s : Sc) : Option Sc := if doneS ps s = true then some s else onceS ps s
section
variable {Fo S : Nat → Prop} {B X R N Pb : Nat} {rA : Option Addr} {rc : Nat} {ws : List (BitVec 64)} {b t e : Nat} {l : List Nat} {m : Nat} {A2 : Option Addr} {M c2 : Nat} {full : Bool} {s : Sc} {c : Cy} {scan : Nat}
theorem rmove_g (w : World) (H : Heap ws l b t) (h : RS Fo w B X R N rA rc ws b t e l m c scan false) (y : Int) (hy : rootB l y = true) :
    Calls Try.prog 36 #[.pointer (some ⟨X, 0, none⟩), .int .i64 y] w (fun r w' => ∃ (v : Int) (c' : Cy) (fu : Bool), r = .returned (.int .i64 v) ∧ RS Fo w' B X R N rA rc ws b t e l m c' scan fu ∧ Below B w w' ∧ Kept (fun k => ¬ Fo k) w w' ∧ ((fu = false ∧ ∃ q : Nat, takeP c (rootP y) = some (q, c') ∧ v = (q : Int) - 1) ∨ (fu = true ∧ takeP c (rootP y) = none))) := by
  obtain ⟨e1, e2⟩ := rootP_of hy
  have h0 := rmove_c w H h (rootP y) e2
  rw [← e1] at h0
  refine h0.mono ?_
  intro r w' hk
  cases hr : takeP c (rootP y) with
  | none =>
    rw [hr] at hk
    obtain ⟨rfl, hs, b2, k2⟩ := hk
    exact ⟨-1, c, true, rfl, hs, b2, k2, .inr ⟨rfl, rfl⟩⟩
  | some z =>
    obtain ⟨q, z⟩ := z
    rw [hr] at hk
    obtain ⟨rfl, hs, b2, k2⟩ := hk
    exact ⟨_, z, false, rfl, hs, b2, k2, .inl ⟨rfl, q, rfl, rfl⟩⟩
def OneQ (S : Nat → Prop) (w : World) (B X R N Pb : Nat) (rA : Option Addr) (rc : Nat) (ws : List (BitVec 64)) (b t e : Nat) (l : List Nat) (m : Nat) (A2 : Option Addr) (M c2 : Nat) (x : Option Sc) (r : Ending) (w' : World) : Prop :=
  r = .returned (.tuple #[]) ∧ Below B w w' ∧ Kept (fun k => ¬ S k) w w' ∧ match x with
  | some s' => PaAt S w' B X R N Pb rA rc ws b t e l m A2 M c2 false s'
  | none => ∃ s', PaAt S w' B X R N Pb rA rc ws b t e l m A2 M c2 true s'
/-- The next object, or none. -/
theorem pone_scan (w : World) (HH : Heap ws l b t) (hm : m ≤ 8192) (ps : List Nat) (h : PaAt S w B X R N Pb rA rc ws b t e l m A2 M c2 false s) (hM : M = ps.length) (hsi : SI ws l b t m ps s) (hq : ¬ s.qs.length < M) :
    Calls Try.prog 16 #[.pointer (some ⟨Pb, 0, none⟩)] w (OneQ S w B X R N Pb rA rc ws b t e l m A2 M c2 (nextO ps s)) := by
  have hlt := h.lt
  obtain ⟨ov, xs, h1, h2, h3, h4, h5, h6, h7⟩ := h
  obtain ⟨oA, oc, rfl, _⟩ := h3.form
  have hx := h7 rfl
  have hxl : xs.length = s.qs.length := by rw [hx]; simp [backZ]
  have h3' := h3
  rw [hxl] at h2 h1 h3' h4
  have hFo : ∀ k, S k ∨ k = Pb ∨ (Value.slice oA s.qs.length oc).ownBlock = some k → k < w.heap.size := fun k hk => by
    rcases hk with hk | hk | hk
    · exact hlt.2.2.2 k hk
    · omega
    · exact (h3'.lt k hk).2
  obtain ⟨ys, hya, hch⟩ := hsi.ord
  have hle := hch.le
  have hql := hsi.qs
  -- One at any later world
  have HOn : Hid (∀ W, Below w.heap.size w W → Calls Try.prog 37 #[.pointer (some ⟨X, 0, none⟩)] W (fun r w' => ∃ bl : Bool, r = .returned (.bool bl) ∧ Below B W w' ∧ Kept (fun k => ¬ (S k ∨ k = Pb ∨ (Value.slice oA s.qs.length oc).ownBlock = some k)) W w' ∧ match nextO ps s with
      | some s' => s'.qs = s.qs ∧ RS (fun k => S k ∨ k = Pb ∨ (Value.slice oA s.qs.length oc).ownBlock = some k) w' B X R N rA rc ws b t e l m s'.c s'.sc false
      | none => ∃ d, RS (fun k => S k ∨ k = Pb ∨ (Value.slice oA s.qs.length oc).ownBlock = some k) w' B X R N rA rc ws b t e l m d s.sc true)) := Lib.hid fun W hW => by
    have h1W := h1.below hW
    by_cases hd : s.sc = s.c.top
    · have hD : doneS ps s = true := by unfold doneS; exact decide_eq_true ⟨by omega, hd⟩
      refine (rone_end W h1W (.inr (by omega))).mono ?_
      rintro r w' ⟨rfl, b2⟩
      refine ⟨false, rfl, b2.mono h1W.B_le.1, Kept.of_below b2 _, ?_⟩
      unfold nextO
      rw [if_pos hD]
      exact ⟨rfl, h1W.below b2⟩
    · have hD : doneS ps s = false := by unfold doneS; exact decide_eq_false (fun h => hd h.2)
      obtain ⟨a, ys2, rfl, n1, n2, n3, n4, n5, n6, n7, n8⟩ := next_obj HH hsi.inv hch hya (by omega)
      refine (rone_c W HH h1W hm (by omega) n3 n4 (fun k hk => Nat.lt_of_lt_of_le (hFo k hk) hW.size) _ rfl).mono ?_
      intro r w' hk
      unfold nextO
      rw [if_neg (by rw [hD]; decide)]
      unfold onceS
      rw [if_neg (by omega)]
      cases hr : scanC s.sc (P0 (s.c.T.getD s.sc 0#64)) 0 s.c with
      | none =>
        rw [hr] at hk
        obtain ⟨rfl, hs, b2, k2⟩ := hk
        exact ⟨false, rfl, b2, k2, hs⟩
      | some z =>
        rw [hr] at hk
        obtain ⟨rfl, hs, b2, k2⟩ := hk
        exact ⟨true, rfl, b2, k2, rfl, hs⟩
  have p0 := h2.cell 0
  have p1 := h2.cell 1
  have p2 := h2.cell 2
  have hP := h2.lt
  have HD := Lib.hid (And.intro h2 (And.intro h3' (And.intro h4 (And.intro h5 (And.intro h6 (And.intro hx hlt.2.1))))))
  have hr0 : decide ((s.qs.length : Int) < (M : Int)) = false := decide_eq_false (by omega)
  obtain ⟨Q, hQ⟩ : ∃ Q, Q = nextO ps s := ⟨_, rfl⟩
  rw [← hQ] at HOn ⊢
  clear h1 h2 h3 h3' h4 h5 h6 h7 hx hxl hFo hch hle hql hya hsi hq hM hlt hQ HH
  go_enter Try.func16, Try.ntmps16
  go_wp2_with fail
  refine po0 _ _ _ Pb s.qs.length M oc c2 oA A2 false hP p1 p2 hr0 rfl rfl ?_
  intro vals2 w3 hG hh
  unfold IsV at hh
  simp only [putD, Act.put, List.setIfInBounds_toArray, List.set_cons_zero, List.set_cons_succ, hh]
  have H3 := Lib.hid hG
  have p0 := (hG.cell (p := ⟨Pb, 0, none⟩) hP).trans p0
  clear hG hh p1 p2
  go_wp2_with fail
  refine Calls.mono (HOn.out w3 H3.out) ?_
  rintro r w6 ⟨bl, rfl, b6, k6, hn⟩
  have H6 := Lib.hid (And.intro b6 (And.intro k6 hn))
  clear b6 k6 hn
  go_wp2_with fail
  go_end0
  obtain ⟨b6, k6, hn⟩ := H6.out
  obtain ⟨h2, h3, h4, h5, h6, hx, hB⟩ := HD.out
  have hw6 : Below B w w6 := (H3.out.mono hB).trans b6
  have kw6 : Kept (fun k => ¬ S k) w w6 := (Kept.of_below H3.out _).trans (k6.more (fun j hj hf => hj (.inl hf)))
  have h2' := k6.bk (h2.below H3.out h2.lt) (fun h => h (.inr (.inl rfl)))
  have h3' := k6.ow (h3.below H3.out) (fun k hk h => h (.inr (.inr hk)))
  refine ⟨rfl, hw6, kw6, ?_⟩
  cases Q with
  | none =>
    obtain ⟨d, hd⟩ := hn
    exact ⟨⟨d, s.qs, s.sc⟩, _, _, hd, h2', h3', h4, h5, h6, fun h => (by cases h)⟩
  | some s' => exact ⟨_, _, hn.2, h2', h3', h4, h5, h6, fun _ => by rw [hx, hn.1]⟩
end
end Go.Proofs.Ytbanbpphadgoiaa
/- The document's collector: a root that waits. Conditions: right objects. -/
namespace Go.Proofs.Ytbanbpphadgoiaa
set_option linter.unusedVariables false
set_option linter.unusedSimpArgs false
open Go.RowKit Go.Maps
set_option maxHeartbeats 4000000
set_option maxRecDepth 100000
section
variable {S : Nat → Prop} {B X R N Pb : Nat} {rA : Option Addr} {rc : Nat} {ws : List (BitVec 64)} {b t e : Nat} {l : List Nat} {m : Nat} {A2 : Option Addr} {M c2 : Nat} {s : Sc}
theorem pone_root (w : World) (HH : Heap ws l b t) (roots : List Int) (hR : RootsOk l roots) (h : PaAt S w B X R N Pb rA rc ws b t e l m A2 M c2 false s) (hM : M = roots.length) (hM8 : M ≤ 1000) (hrd : Rd zV w B A2 roots) (hq : s.qs.length < M) :
    Calls Try.prog 16 #[.pointer (some ⟨Pb, 0, none⟩)] w (OneQ S w B X R N Pb rA rc ws b t e l m A2 M c2 (nextO (roots.map rootP) s)) := by
  have hlt := h.lt
  obtain ⟨ov, xs, h1, h2, h3, h4, h5, h6, h7⟩ := h
  obtain ⟨oA, oc, rfl, _⟩ := h3.form
  have hx := h7 rfl
  have hxl : xs.length = s.qs.length := by rw [hx]; simp [backZ]
  obtain ⟨k, hk⟩ : ∃ k, k = s.qs.length := ⟨_, rfl⟩
  rw [← hk] at hq hxl
  have h3' : Ow zV 3 w B (.slice oA k oc) xs := by rw [← hxl]; exact h3
  rw [hxl] at h2 h1 h4
  have hkr : k < roots.length := by omega
  obtain ⟨y, hy⟩ : ∃ y, y = roots[k] := ⟨_, rfl⟩
  obtain ⟨ad, rfl, hadB, hcy⟩ := hrd k hkr
  rw [← hy] at hcy
  unfold zV at hcy
  have hyb : rootB l y = true := List.all_eq_true.1 hR.1 y (by rw [hy]; exact List.getElem_mem _)
  have hnx : nextO (roots.map rootP) s = (takeP s.c (rootP y)).map fun r => ⟨r.2, s.qs ++ [r.1], s.sc⟩ := by
    have hD : doneS (roots.map rootP) s = false := by unfold doneS; exact decide_eq_false (fun h => by have := h.1; rw [List.length_map] at this; omega)
    unfold nextO
    rw [if_neg (by rw [hD]; decide)]
    unfold onceS
    rw [if_pos (by rw [List.length_map]; omega)]
    congr 2
    rw [List.getD_eq_getElem?_getD, List.getElem?_map, ← hk, List.getElem?_eq_getElem hkr, hy]
    rfl
  rw [hnx]
  have p0 := h2.cell 0
  have p1 := h2.cell 1
  have p2 := h2.cell 2
  have hP := h2.lt
  have hadw : (ad.add k).block < w.heap.size := by rw [add_block]; omega
  have hadB' : (ad.add k).block < B := by rw [add_block]; exact hadB
  have HD := Lib.hid (And.intro h2 (And.intro h3' (And.intro h4 (And.intro h5 (And.intro h6 (And.intro hx hlt))))))
  have HS := Lib.hid h1
  have HHi := Lib.hid HH
  have HYb := Lib.hid hyb
  have hr0 : decide ((k : Int) < (M : Int)) = true := decide_eq_true (by omega)
  have k0 : (0 : Int) ≤ (k : Int) := by omega
  have kM : (k : Int) < (M : Int) := by omega
  have HXl := Lib.hid hxl
  have HCy := Lib.hid hcy
  have HM8 := Lib.hid (And.intro hM8 hq)
  clear h1 h2 h3 h3' h4 h5 h6 h7 hx hxl hlt HH hR hrd hkr hk hy hyb hnx hM hadB hq hM8
  go_enter Try.func16, Try.ntmps16
  go_wp2_with fail
  refine po0 _ _ _ Pb k M oc c2 oA (some ad) true hP p1 p2 hr0 rfl rfl ?_
  intro vals2 w3 hG hh
  unfold IsV at hh
  simp only [putD, Act.put, List.setIfInBounds_toArray, List.set_cons_zero, List.set_cons_succ, hh]
  have H3 := Lib.hid hG
  have p0 := (hG.cell (p := ⟨Pb, 0, none⟩) hP).trans p0
  have p1 := (hG.cell (p := ⟨Pb, 1, none⟩) hP).trans p1
  have p2 := (hG.cell (p := ⟨Pb, 2, none⟩) hP).trans p2
  have hcy := (hG.cell (p := ad.add k) hadw).trans hcy
  have hw3 : w3.cell? ⟨Pb, 0, none⟩ = some (.pointer (some ⟨X, 0, none⟩)) ∧ w3.cell? ⟨Pb, 1, none⟩ = some (.slice (some ad) M c2) ∧ w3.cell? ⟨Pb, 2, none⟩ = some (.slice oA k oc) ∧ w3.cell? (ad.add k) = some (.int .i64 y) := ⟨p0, p1, p2, hcy⟩
  clear hG hh p0 p1 p2 hcy
  go_wp2_with fail
  refine region_by_spineU 27 [1, 6, 22, 23, 24, 25, 26, 27] [(0, 13, .pointer (some ⟨Pb, 0, none⟩)), (2, 15, .pointer (some ⟨Pb, 0, none⟩)), (3, 16, .pointer (some ⟨Pb, 0, none⟩)), (4, 17, .pointer (some ⟨Pb, 2, none⟩)), (5, 18, .slice oA k oc), (7, 20, .pointer (some ⟨Pb, 0, none⟩)), (8, 21, .pointer (some ⟨Pb, 0, none⟩)), (9, 22, .pointer (some ⟨Pb, 0, none⟩)), (10, 23, .pointer (some ⟨X, 0, none⟩)), (11, 24, .pointer (some ⟨Pb, 0, none⟩)), (12, 25, .pointer (some ⟨Pb, 0, none⟩)), (13, 26, .pointer (some ⟨Pb, 1, none⟩)), (14, 27, .slice (some ad) M c2), (15, 28, .pointer (some ⟨Pb, 0, none⟩)), (16, 29, .pointer (some ⟨Pb, 0, none⟩)), (17, 30, .pointer (some ⟨Pb, 2, none⟩)), (18, 31, .slice oA k oc), (19, 32, .int .i64 (k : Int)), (20, 33, .pointer (some (ad.add k))), (21, 34, .int .i64 y)]
    (fun W => W.cell? ⟨Pb, 0, none⟩ = some (.pointer (some ⟨X, 0, none⟩)) ∧ W.cell? ⟨Pb, 1, none⟩ = some (.slice (some ad) M c2) ∧ W.cell? ⟨Pb, 2, none⟩ = some (.slice oA k oc) ∧ W.cell? (ad.add k) = some (.int .i64 y)) (by kernel_rfl) (by kernel_rfl) (by kernel_rfl) (by kernel_rfl) (by kernel_rfl) (by kernel_rfl) (by kernel_rfl) hw3 ?_ ?_
  · intro z hz V ρ hV hρ hcst
    obtain ⟨k1, k2, k3, k4⟩ := hV
    have e0 : ρ (.tmp 0) = .pointer (some ⟨Pb, 0, none⟩) := (hρ 0).trans (by kernel_rfl)
    have e15 : ρ (.tmp 15) = .pointer (some ⟨Pb, 0, none⟩) := (hρ 15).trans (by kernel_rfl)
    have e16 : ρ (.tmp 16) = .pointer (some ⟨Pb, 0, none⟩) := (hρ 16).trans (by kernel_rfl)
    have e17 : ρ (.tmp 17) = .pointer (some ⟨Pb, 2, none⟩) := (hρ 17).trans (by kernel_rfl)
    have e20 : ρ (.tmp 20) = .pointer (some ⟨Pb, 0, none⟩) := (hρ 20).trans (by kernel_rfl)
    have e21 : ρ (.tmp 21) = .pointer (some ⟨Pb, 0, none⟩) := (hρ 21).trans (by kernel_rfl)
    have e22 : ρ (.tmp 22) = .pointer (some ⟨Pb, 0, none⟩) := (hρ 22).trans (by kernel_rfl)
    have e24 : ρ (.tmp 24) = .pointer (some ⟨Pb, 0, none⟩) := (hρ 24).trans (by kernel_rfl)
    have e25 : ρ (.tmp 25) = .pointer (some ⟨Pb, 0, none⟩) := (hρ 25).trans (by kernel_rfl)
    have e26 : ρ (.tmp 26) = .pointer (some ⟨Pb, 1, none⟩) := (hρ 26).trans (by kernel_rfl)
    have e27 : ρ (.tmp 27) = .slice (some ad) M c2 := (hρ 27).trans (by kernel_rfl)
    have e28 : ρ (.tmp 28) = .pointer (some ⟨Pb, 0, none⟩) := (hρ 28).trans (by kernel_rfl)
    have e29 : ρ (.tmp 29) = .pointer (some ⟨Pb, 0, none⟩) := (hρ 29).trans (by kernel_rfl)
    have e30 : ρ (.tmp 30) = .pointer (some ⟨Pb, 2, none⟩) := (hρ 30).trans (by kernel_rfl)
    have e31 : ρ (.tmp 31) = .slice oA k oc := (hρ 31).trans (by kernel_rfl)
    have e32 : ρ (.tmp 32) = .int .i64 (k : Int) := (hρ 32).trans (by kernel_rfl)
    have e33 : ρ (.tmp 33) = .pointer (some (ad.add k)) := (hρ 33).trans (by kernel_rfl)
    clear hρ
    simp only [List.mem_cons, List.not_mem_nil, or_false] at hz
    rcases hz with rfl | rfl | rfl | rfl | rfl | rfl | rfl | rfl | rfl | rfl | rfl | rfl | rfl | rfl | rfl | rfl | rfl | rfl | rfl | rfl
    all_goals
      refine ⟨_, rfl, ?_⟩
      go_simp
      try rfl
  simp only [putA, putD, Act.put, List.setIfInBounds_toArray, List.set_cons_zero, List.set_cons_succ]
  obtain ⟨W0, hW0⟩ : ∃ W0, W0 = w3.drew := ⟨_, rfl⟩
  have b0 : Below w.heap.size w W0 := by rw [hW0]; exact H3.out.trans ((Gw.drew w3).mono H3.out.size)
  rw [← hW0]
  have HB0 := Lib.hid b0
  have HF1 : Hid (∀ W, Below w.heap.size w W → Bk W Pb 41 #[.pointer (some ⟨X, 0, none⟩), .slice (some ad) M c2, .slice oA k oc] ∧ W.cell? (ad.add k) = some (.int .i64 y)) := Lib.hid fun W hb => ⟨HD.out.1.below hb HD.out.1.lt, (hb.cell (p := ad.add k) hadw).trans HCy.out⟩
  clear b0 hW0 hw3
  refine spineU_list rfl rfl rfl ?_
  go_wp2_with fail
  have b1 : Below w.heap.size w (W0.alloc (.cells #[] 3)) := HB0.out.alloc HB0.out.size _
  have HW1 := Lib.hid (HF1.out _ b1)
  refine ⟨rfl, ⟨HW1.out.1.cell 0, HW1.out.1.cell 1, HW1.out.1.cell 2, HW1.out.2⟩, ?_⟩
  have hrx : Rd zV (W0.alloc (.cells #[] 3)) w.heap.size oA xs := by
    have h := HD.out.2.1
    rw [← HXl.out] at h
    exact h.rd.below b1
  have HL1 := Lib.hid (show ([] : List Int).length + xs.length ≤ 4294967296 ∧ xs.length + [y].length ≤ 4294967296 from by
    have h1 := HXl.out
    have h2 := HM8.out
    simp
    omega)
  have HB1 := Lib.hid b1
  clear b1
  refine spineU_list rfl rfl rfl ?_
  refine wp_app oneI zV_oneR rfl (.tmp 14) (.tmp 18) rfl W0.heap.size _ [] rfl (ow_empty zV 3 W0 W0.heap.size (Nat.le_refl _)) oA k oc xs rfl HXl.out.symm w.heap.size hrx HL1.out.1 (by decide) (by simp) ?_
  intro v2 V2 ho2 hb2 hg2 hv2
  rw [List.nil_append] at ho2
  obtain ⟨A9, n9, c9, rfl⟩ := ow_slN ho2
  have b2 : Below w.heap.size w V2 := HB0.out.trans (((Gw.alloc W0 _).trans hb2).mono HB0.out.size)
  have HB2 := Lib.hid b2
  have HW2 := Lib.hid (HF1.out _ b2)
  have HO2 := Lib.hid ho2
  have HS02 := Lib.hid (show W0.heap.size ≤ V2.heap.size from Nat.le_trans (Gw.alloc W0 _).size hb2.size)
  clear ho2 hb2 hg2 hv2 b2 hrx
  refine ⟨rfl, fun _ => ⟨HW2.out.1.cell 0, HW2.out.1.cell 1, HW2.out.1.cell 2, HW2.out.2⟩, ?_⟩
  have hs2 : RS (fun j => (S j ∨ j = Pb) ∨ (Value.slice A9 n9 c9).ownBlock = some j) V2 B X R N rA rc ws b t e l m s.c s.sc false := by
    refine HS.out.widen HB2.out (fun j hj => ?_)
    rcases hj with (hj | hj) | hj
    · exact .inl (.inl hj)
    · exact .inl (.inr (.inl hj))
    · have := HO2.out.lt j hj
      have := HB0.out.size
      exact .inr ⟨by omega, by omega⟩
  have HMv := Lib.hid (rmove_g V2 HHi.out hs2 y HYb.out)
  clear hs2
  refine spineU_list rfl rfl rfl ?_
  go_wp2_with fail
  refine Calls.mono HMv.out ?_
  rintro r V3 ⟨v, c', fu, rfl, hs3, b3, k3, hc3⟩
  have hk3 := k3.bk HW2.out.1 (fun h => h (.inl (.inr rfl)))
  have hy3 := (b3.cell (p := ad.add k) hadB').trans HW2.out.2
  have ho3 := k3.ow HO2.out (fun j hj h => h (.inr hj))
  have H3' := Lib.hid (And.intro hs3 (And.intro b3 (And.intro k3 (And.intro hc3 (And.intro hk3 (And.intro hy3 ho3))))))
  clear hs3 b3 k3 hc3 hk3 hy3 ho3 HMv
  go_wp2_with fail
  refine ⟨rfl, fun _ => ⟨H3'.out.2.2.2.2.1.cell 0, H3'.out.2.2.2.2.1.cell 1, H3'.out.2.2.2.2.1.cell 2, H3'.out.2.2.2.2.2.1⟩, ?_⟩
  refine spineU_list rfl rfl rfl ?_
  go_wp2_with fail
  have hs4 : V3.heap.size ≤ (V3.alloc (.cells #[.int .i64 v] 3)).heap.size := (Gw.alloc V3 _).size
  have hPb3 := H3'.out.2.2.2.2.1.lt
  have ha3 : (ad.add k).block < V3.heap.size := by have := HD.out.2.2.2.2.2.2.2.1; have := H3'.out.2.1.size; have := HB2.out.size; omega
  have HW4 := Lib.hid (show Bk (V3.alloc (.cells #[.int .i64 v] 3)) Pb 41 #[.pointer (some ⟨X, 0, none⟩), .slice (some ad) M c2, .slice oA k oc] ∧ (V3.alloc (.cells #[.int .i64 v] 3)).cell? (ad.add k) = some (.int .i64 y) from ⟨H3'.out.2.2.2.2.1.alloc _, ((Gw.alloc V3 _).cell (p := ad.add k) ha3).trans H3'.out.2.2.2.2.2.1⟩)
  refine ⟨rfl, ⟨HW4.out.1.cell 0, HW4.out.1.cell 1, HW4.out.1.cell 2, HW4.out.2⟩, ?_⟩
  refine spineU_list rfl rfl rfl ?_
  refine wp_app oneI zV_oneR rfl (.tmp 19) (.tmp 36) rfl W0.heap.size _ xs rfl (H3'.out.2.2.2.2.2.2.alloc _) (some ⟨V3.heap.size, 0, none⟩) 1 1 [v] rfl rfl (V3.heap.size + 1) (rd1_new rfl) HL1.out.2 (by decide) (Nat.le_trans HS02.out (Nat.le_trans H3'.out.2.1.size hs4)) ?_
  intro v5 V5 ho5 hb5 hg5 hv5
  obtain ⟨A5, n5, c5, rfl⟩ := ow_slN ho5
  have hgb : ∀ j, (Value.slice A9 n9 c9).ownBlock = some j → w.heap.size ≤ j := fun j hj => Nat.le_trans HB0.out.size (HO2.out.lt j hj).1
  have hk5 := HW4.out.1.grown hg5 (fun e => by have := hgb Pb e.symm; omega)
  have hy5 : V5.cell? (ad.add k) = some (.int .i64 y) := ((Kept.grown hg5).cell (p := ad.add k) (Nat.lt_of_lt_of_le ha3 hs4) (fun e => by have := hgb _ e; omega)).trans HW4.out.2
  have H5 := Lib.hid (And.intro ho5 (And.intro hg5 (And.intro hv5 (And.intro hk5 hy5))))
  clear ho5 hb5 hg5 hv5 hk5 hy5 hgb
  refine ⟨rfl, fun _ => ⟨H5.out.2.2.2.1.cell 0, H5.out.2.2.2.1.cell 1, H5.out.2.2.2.1.cell 2, H5.out.2.2.2.2⟩, ?_⟩
  refine spineU_list rfl rfl rfl ?_
  go_wp2_with fail
  refine ⟨rfl, ⟨H5.out.2.2.2.1.cell 0, H5.out.2.2.2.1.cell 1, H5.out.2.2.2.1.cell 2, H5.out.2.2.2.2⟩, ?_⟩
  refine spineU_list rfl rfl rfl ?_
  go_wp2_with fail
  refine ⟨rfl, ⟨H5.out.2.2.2.1.cell 0, H5.out.2.2.2.1.cell 1, H5.out.2.2.2.1.cell 2, H5.out.2.2.2.2⟩, ?_⟩
  refine spineU_list rfl rfl rfl ?_
  have j2 := H5.out.2.2.2.1.cell 2
  have jf := H5.out.2.2.2.1.free 2
  have jP := H5.out.2.2.2.1.lt
  go_wp2_with fail
  refine ⟨rfl, trivial, ?_⟩
  unfold SpineU
  clear j2 jf
  go_wp2_with fail
  go_end0
  obtain ⟨h2, h3, h4, h5, h6, hx, hPw, hBw, _, hSl⟩ := HD.out
  obtain ⟨hs3, b3, k3, hc3, hk3, hy3, ho3⟩ := H3'.out
  obtain ⟨ho5, hg5, hv5, hk5, hy5⟩ := H5.out
  have hW0 := HB0.out.size
  have hown9 : ∀ j, (Value.slice A9 n9 c9).ownBlock = some j → w.heap.size ≤ j ∧ j < V3.heap.size := fun j hj => ⟨Nat.le_trans hW0 (ho3.lt j hj).1, (ho3.lt j hj).2⟩
  have g5 := ho5.lt
  have hown5 : ∀ j, (Value.slice A5 n5 c5).ownBlock = some j → w.heap.size ≤ j ∧ j < V5.heap.size := fun j hj => ⟨Nat.le_trans hW0 (g5 j hj).1, (g5 j hj).2⟩
  have K45 := Kept.grown hg5
  have b5 : Below B V3 V5 := ((Gw.alloc V3 _).mono (by omega)).trans (K45.below (by omega) (fun j hj => by have := hown9 j hj; omega))
  have K6 := Kept.set V5 Pb 2 (.slice A5 n5 c5)
  have b6 : Below B V5 (V5.setCell ⟨Pb, 2, none⟩ (.slice A5 n5 c5)) := K6.below (by have := b5.size; omega) (fun j hj => by omega)
  have hsA := hs3.below (Gw.alloc V3 (.cells #[.int .i64 v] 3))
  have hsB : RS (fun j => (S j ∨ j = Pb) ∨ (Value.slice A5 n5 c5).ownBlock = some j) V5 B X R N rA rc ws b t e l m c' s.sc fu := by
    refine hsA.kept K45 (fun j hj => ⟨.inr hj, by have := hown9 j hj; omega⟩) (fun j hj => ?_)
    rcases hj with hj | hj
    · exact .inl (.inl hj)
    · rcases hv5 with e5 | e5
      · exact .inl (.inr (e5 ▸ hj))
      · rw [e5] at hj
        injection hj with hj
        exact .inr ⟨by omega, by have := (hown5 j (by rw [e5, hj])).2; omega⟩
  have hsC : RS (fun j => S j ∨ j = Pb ∨ (Value.slice A5 n5 c5).ownBlock = some j) (V5.setCell ⟨Pb, 2, none⟩ (.slice A5 n5 c5)) B X R N rA rc ws b t e l m c' s.sc fu :=
    hsB.kept K6 (fun j hj => ⟨.inl (.inr hj), by omega⟩) (fun j hj => by
      rcases hj with hj | hj | hj
      · exact .inl (.inl (.inl hj))
      · exact .inl (.inl (.inr hj))
      · exact .inl (.inr hj))
  have hkF := hk5.set 2 (.slice A5 n5 c5)
  have hoF := K6.ow (ho5.mono (Nat.le_trans hBw hW0)) (fun j hj e => by have := hown5 j hj; omega)
  have hbF : Below B w (V5.setCell ⟨Pb, 2, none⟩ (.slice A5 n5 c5)) := (((HB2.out.mono hBw).trans b3).trans b5).trans b6
  have hkS : Kept (fun j => ¬ S j) w (V5.setCell ⟨Pb, 2, none⟩ (.slice A5 n5 c5)) := by
    have q1 := (Kept.of_below HB2.out (fun j => ¬ S j)).trans (k3.more (S' := fun j => ¬ S j) (fun j hj hf => hj (.inl (.inl hf))))
    have q2 := q1.trans (Kept.alloc (fun j => ¬ S j) V3 (.cells #[.int .i64 v] 3))
    have q3 := q2.trans (K45.more (S' := fun j => ¬ S j) (fun j hj hf => by have := hown9 j hj; have := hSl j hf; omega))
    exact q3.trans (K6.more (S' := fun j => ¬ S j) (fun j hj hf => by rw [hj] at hf; exact h5 hf))
  have hneF : ∀ j, (Value.slice A5 n5 c5).ownBlock = some j → j ≠ Pb ∧ ¬ S j := fun j hj => by
    have := hown5 j hj
    exact ⟨by omega, fun hf => by have := hSl j hf; omega⟩
  refine ⟨rfl, hbF, hkS, ?_⟩
  rcases hc3 with ⟨rfl, q, hq, hv⟩ | ⟨rfl, hq⟩
  · rw [hq]
    exact ⟨_, _, hsC, hkF, hoF, hneF, h5, h6, fun _ => by rw [hx, hv]; exact (backZ_snoc s.qs q).symm⟩
  · rw [hq]
    exact ⟨⟨c', s.qs, s.sc⟩, _, _, hsC, hkF, hoF, hneF, h5, h6, fun h => (by cases h)⟩
theorem pone_c (w : World) (HH : Heap ws l b t) (hm : m ≤ 8192) (roots : List Int) (hR : RootsOk l roots) (h : PaAt S w B X R N Pb rA rc ws b t e l m A2 M c2 false s) (hM : M = roots.length) (hM8 : M ≤ 1000) (hrd : Rd zV w B A2 roots) (hsi : SI ws l b t m (roots.map rootP) s) :
    Calls Try.prog 16 #[.pointer (some ⟨Pb, 0, none⟩)] w (OneQ S w B X R N Pb rA rc ws b t e l m A2 M c2 (nextO (roots.map rootP) s)) := by
  by_cases hq : s.qs.length < M
  · exact pone_root w HH roots hR h hM hM8 hrd hq
  · exact pone_scan w HH hm _ h (by rw [List.length_map]; exact hM) hsi hq
end
end Go.Proofs.Ytbanbpphadgoiaa
/- loamlaw16.To: words as a space, or none. Conditions: lengths. -/
namespace Go.Proofs.Ytbanbpphadgoiaa
set_option linter.unusedVariables false
set_option linter.unusedSimpArgs false
open Go.RowKit
set_option maxHeartbeats 1000000
set_option maxRecDepth 100000
/-- Is there no such space? -/
def toN (ws : List (BitVec 64)) (b t e : Int) : Prop := (b < 0 ∨ (¬ b < 0 ∧ t < b) ∨ (¬ b < 0 ∧ ¬ t < b ∧ e < t) ∨ (¬ b < 0 ∧ ¬ t < b ∧ ¬ e < t ∧ (ws.length : Int) < e))
theorem to_out (w : World) (A : Option Addr) (ws : List (BitVec 64)) (c : Nat) (hr : Rd u64v w w.heap.size A ws) (hl : ws.length ≤ 8192) (b t e : Int) (ho : toN ws b t e) : Calls Try.prog 9 #[.slice A ws.length c, .int .i64 b, .int .i64 t, .int .i64 e] w (RetP (.pointer none) w) := by
  have HMem := Lib.hid (mem15_c w A c ws hr hl)
  have HOf := Lib.hid (fun W B g v (h : MemAt W B g v ws) => sof_out W (.pointer (some ⟨g, 0, none⟩)) b t e (bare_out W B g v ws b t e h ho))
  obtain ⟨N, hN⟩ : ∃ N, N = ws.length := ⟨_, rfl⟩
  rw [← hN] at HMem ⊢
  clear hr hl hN ho
  go_enter Try.func9, Try.ntmps9
  go_wp2_with fail
  refine Calls.mono HMem.out ?_
  rintro r w2 ⟨g, v, rfl, h2, b2⟩
  have HM2 := Lib.hid (HOf.out w2 _ g v h2)
  have HB2 := Lib.hid b2
  clear h2 b2
  go_wp2_with fail
  refine Calls.mono HM2.out ?_
  rintro r w3 ⟨rfl, rfl⟩
  go_wp2_with fail
  go_ret
  exact ⟨rfl, HB2.out⟩
theorem to_none (w : World) (A : Option Addr) (ws : List (BitVec 64)) (c : Nat) (hr : Rd u64v w w.heap.size A ws) (hl : ws.length ≤ 8192) (b t e : Nat) (hbt : b ≤ t) (hte : t ≤ e) (hel : e ≤ ws.length) (ho : objF ws t (t + 1) b = none) : Calls Try.prog 9 #[.slice A ws.length c, .int .i64 b, .int .i64 t, .int .i64 e] w (RetP (.pointer none) w) := by
  have HMem := Lib.hid (mem15_c w A c ws hr hl)
  have HOf := Lib.hid (fun W B g v (h : MemAt W B g v ws) => sof_none W B g v ws b t e h hbt hte hel (by omega) ho)
  obtain ⟨N, hN⟩ : ∃ N, N = ws.length := ⟨_, rfl⟩
  rw [← hN] at HMem ⊢
  clear hr hl hN ho hbt hte hel
  go_enter Try.func9, Try.ntmps9
  go_wp2_with fail
  refine Calls.mono HMem.out ?_
  rintro r w2 ⟨g, v, rfl, h2, b2⟩
  have HM2 := Lib.hid (HOf.out w2 _ g v h2)
  have HB2 := Lib.hid b2
  clear h2 b2
  go_wp2_with fail
  refine Calls.mono HM2.out ?_
  rintro r w3 ⟨rfl, b3⟩
  have HB3 := Lib.hid (HB2.out.trans (b3.mono HB2.out.size))
  clear b3
  go_wp2_with fail
  go_ret
  exact ⟨rfl, HB3.out⟩
theorem to_some (w : World) (A : Option Addr) (ws : List (BitVec 64)) (c : Nat) (hr : Rd u64v w w.heap.size A ws) (hl : ws.length ≤ 8192) (b t e : Nat) (hbt : b ≤ t) (hte : t ≤ e) (hel : e ≤ ws.length) (l : List Nat) (ho : objF ws t (t + 1) b = some l) : Calls Try.prog 9 #[.slice A ws.length c, .int .i64 b, .int .i64 t, .int .i64 e] w fun r w' => ∃ s g v, r = .returned (.pointer (some ⟨s, 0, none⟩)) ∧ SpAt w' w.heap.size s g v ws b t e ∧ Below w.heap.size w w' := by
  have HMem := Lib.hid (mem15_c w A c ws hr hl)
  have HOf := Lib.hid (fun W B g v (h : MemAt W B g v ws) => sof_some W B g v ws b t e h hbt hte hel (by omega) l ho)
  obtain ⟨N, hN⟩ : ∃ N, N = ws.length := ⟨_, rfl⟩
  rw [← hN] at HMem ⊢
  clear hr hl hN ho hbt hte hel
  go_enter Try.func9, Try.ntmps9
  go_wp2_with fail
  refine Calls.mono HMem.out ?_
  rintro r w2 ⟨g, v, rfl, h2, b2⟩
  have HM2 := Lib.hid (HOf.out w2 _ g v h2)
  have HB2 := Lib.hid b2
  clear h2 b2
  go_wp2_with fail
  refine Calls.mono HM2.out ?_
  rintro r w3 ⟨s, rfl, h3, b3⟩
  have HB3 := Lib.hid (And.intro h3 (HB2.out.trans (b3.mono HB2.out.size)))
  clear b3 h3
  go_wp2_with fail
  go_ret
  exact ⟨s, g, v, rfl, HB3.out.1, HB3.out.2⟩
/-- What To makes of words. -/
def toP (ws : List (BitVec 64)) (b t e : Int) (w : World) (r : Ending) (w' : World) : Prop :=
  (r = .returned (.pointer none) ∧ Below w.heap.size w w') ∨ ∃ (B T E : Nat) (s g : Nat) (v : Value) (l : List Nat), b = (B : Int) ∧ t = (T : Int) ∧ e = (E : Int) ∧ B ≤ T ∧ T ≤ E ∧ E ≤ ws.length ∧ objF ws T (T + 1) B = some l ∧ r = .returned (.pointer (some ⟨s, 0, none⟩)) ∧ SpAt w' w.heap.size s g v ws B T E ∧ Below w.heap.size w w'
theorem to_c (w : World) (A : Option Addr) (ws : List (BitVec 64)) (c : Nat) (hr : Rd u64v w w.heap.size A ws) (hl : ws.length ≤ 8192) (b t e : Int) : Calls Try.prog 9 #[.slice A ws.length c, .int .i64 b, .int .i64 t, .int .i64 e] w (toP ws b t e w) := by
  by_cases ho : toN ws b t e
  · exact (to_out w A ws c hr hl b t e ho).mono fun r w' h => .inl h
  · unfold toN at ho
    obtain ⟨B, rfl⟩ : ∃ k : Nat, b = (k : Int) := ⟨b.toNat, by omega⟩
    obtain ⟨T, rfl⟩ : ∃ k : Nat, t = (k : Int) := ⟨t.toNat, by omega⟩
    obtain ⟨E, rfl⟩ : ∃ k : Nat, e = (k : Int) := ⟨e.toNat, by omega⟩
    cases h : objF ws T (T + 1) B with
    | none => exact (to_none w A ws c hr hl B T E (by omega) (by omega) (by omega) h).mono fun r w' h => .inl h
    | some l => exact (to_some w A ws c hr hl B T E (by omega) (by omega) (by omega) l h).mono fun r w' ⟨s, g, v, h1, h2, h3⟩ => .inr ⟨B, T, E, s, g, v, l, rfl, rfl, rfl, by omega, by omega, by omega, h, h1, h2, h3⟩
end Go.Proofs.Ytbanbpphadgoiaa
