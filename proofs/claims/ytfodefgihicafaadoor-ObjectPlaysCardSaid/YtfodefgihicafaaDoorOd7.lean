/- Texts joined: ObN OpenR SpK SpL PaG PaH ObO OpO. -/
import Derived.Test.YtfodefgihicafaaDoorOd6
import Derived.Test.YtfodefgihicafaaDoorFrame
import Derived.Deep.Slices
import Derived.Deep.Fields
/- The reference's Well. Conditions: lengths. -/
namespace Go.Proofs.YtfodefgihicafaaDoor
set_option linter.unusedVariables false
set_option linter.unusedSimpArgs false
open Go.RowKit Go.Maps
set_option maxHeartbeats 1000000
set_option maxRecDepth 100000
theorem rw7 (Q : Exit → Act → World → Prop) (a0 : Act) (w : World) (R a i N : Nat) (A B : Option Addr) (L c cl : Nat) (x : BitVec 64) (P n : Int) (hR : R < w.heap.size) (ad ad2 : Addr) (hA : A = some ad) (hB : B = some ad2) (c0 : w.cell? ⟨R, 0, none⟩ = some (.slice A L c)) (hlt : (ad2.add i).block < w.heap.size) (hlt2 : (ad.add a).block < w.heap.size) (cl1 : w.cell? (ad2.add i) = some (.int .i64 (a : Int))) (q0 : (0 : Int) ≤ (i : Int)) (q1 : (i : Int) < (N : Int)) (q2 : (0 : Int) ≤ (a : Int)) (q6 : (a : Int) < (L : Int)) (cw : w.cell? (ad.add a) = some (.int .u64 (U64 x))) (hp : Hid (∀ W, Calls Tryd.prog 46 #[.int .u64 (U64 x)] W (RetP (.tuple #[.agg #[.int .i64 P, .int .i64 n, .bool false, .int .i64 0], .int .i64 0]) W))) (hsz : a0.tmps.size = 65) (sl0 : a0.tmps.getD 0 undef = .pointer (some ⟨R, 0, none⟩)) (sl3 : a0.tmps.getD 3 undef = .slice B N cl) (sl5 : a0.tmps.getD 5 undef = .int .i64 (i : Int))
    (fin : ∀ (vals : Nat → Value) (w1 : World), Below w.heap.size w w1 → (BoxC 74 (#[.int .i64 P, .int .i64 n, .bool false, .int .i64 0]) w.heap.size) (vals 14) w1 → (IsV (.int .i64 0)) (vals 16) w1 → Q .normal (putO vals [some 23, some 24, some 25, some 26, some 27, some 28, some 29, some 30, some 31, some 32, some 33, some 22, some 34, some 35, some 6, none, some 7] 0 a0) w1) :
    (Code.region 7 (regIn Tryd.f19 7) true).wp Tryd.prog Q a0 w := by
  have hGs : ∀ (j : Nat) (v : Value) (w3 : World), (srcOf [(15, 14)] j = j → (([IsV (.pointer (some ⟨R, 0, none⟩)), IsV (.pointer (some ⟨R, 0, none⟩)), IsV (.pointer (some ⟨R, 0, none⟩)), IsV (.slice A L c), IsV (.slice B N cl), IsV (.int .i64 (i : Int)), IsV (.pointer (some (ad2.add i))), IsV (.int .i64 (a : Int)), IsV (.pointer (some (ad.add a))), IsV (.int .u64 (U64 x)), IsV (.tuple #[.agg #[.int .i64 P, .int .i64 n, .bool false, .int .i64 0], .int .i64 0]), IsV (.tuple #[.agg #[.int .i64 P, .int .i64 n, .bool false, .int .i64 0], .int .i64 0]), IsV (.agg #[.int .i64 P, .int .i64 n, .bool false, .int .i64 0]), IsV (.int .i64 0), BoxV 74 4 w.heap.size, BoxC 74 (#[.int .i64 P, .int .i64 n, .bool false, .int .i64 0]) w.heap.size, IsV (.int .i64 0)] : List (Value → World → Prop)).getD j fun _ _ => True) v w3) → (([IsV (.pointer (some ⟨R, 0, none⟩)), IsV (.pointer (some ⟨R, 0, none⟩)), IsV (.pointer (some ⟨R, 0, none⟩)), IsV (.slice A L c), IsV (.slice B N cl), IsV (.int .i64 (i : Int)), IsV (.pointer (some (ad2.add i))), IsV (.int .i64 (a : Int)), IsV (.pointer (some (ad.add a))), IsV (.int .u64 (U64 x)), IsV (.tuple #[.agg #[.int .i64 P, .int .i64 n, .bool false, .int .i64 0], .int .i64 0]), IsV (.tuple #[.agg #[.int .i64 P, .int .i64 n, .bool false, .int .i64 0], .int .i64 0]), IsV (.agg #[.int .i64 P, .int .i64 n, .bool false, .int .i64 0]), IsV (.int .i64 0), BoxV 74 4 w.heap.size, fun _ _ => True, IsV (.int .i64 0)] : List (Value → World → Prop)).getD j fun _ _ => True) v w3 := by
    intro j v w3 h
    match j, h with
    | 0, h => exact h rfl
    | 1, h => exact h rfl
    | 2, h => exact h rfl
    | 3, h => exact h rfl
    | 4, h => exact h rfl
    | 5, h => exact h rfl
    | 6, h => exact h rfl
    | 7, h => exact h rfl
    | 8, h => exact h rfl
    | 9, h => exact h rfl
    | 10, h => exact h rfl
    | 11, h => exact h rfl
    | 12, h => exact h rfl
    | 13, h => exact h rfl
    | 14, h => exact h rfl
    | 15, h => exact trivial
    | 16, h => exact h rfl
    | _ + 17, _ => exact trivial
  refine region_byG [IsV (.pointer (some ⟨R, 0, none⟩)),
    IsV (.pointer (some ⟨R, 0, none⟩)),
    IsV (.pointer (some ⟨R, 0, none⟩)),
    IsV (.slice A L c),
    IsV (.slice B N cl),
    IsV (.int .i64 (i : Int)),
    IsV (.pointer (some (ad2.add i))),
    IsV (.int .i64 (a : Int)),
    IsV (.pointer (some (ad.add a))),
    IsV (.int .u64 (U64 x)),
    IsV (.tuple #[.agg #[.int .i64 P, .int .i64 n, .bool false, .int .i64 0], .int .i64 0]),
    IsV (.tuple #[.agg #[.int .i64 P, .int .i64 n, .bool false, .int .i64 0], .int .i64 0]),
    IsV (.agg #[.int .i64 P, .int .i64 n, .bool false, .int .i64 0]),
    IsV (.int .i64 0),
    BoxV 74 4 w.heap.size,
    BoxC 74 (#[.int .i64 P, .int .i64 n, .bool false, .int .i64 0]) w.heap.size,
    IsV (.int .i64 0)] [(15, StD 74 4 w.heap.size)] [(15, 14)]
    [some 23, some 24, some 25, some 26, some 27, some 28, some 29, some 30, some 31, some 32, some 33, some 22, some 34, some 35, some 6, none, some 7] (by kernel_rfl) (by rw [hsz]; kernel_rfl) (by kernel_rfl) (by kernel_rfl) ?_ ?_ ?_ ?_
  · intro f hf
    simp only [List.mem_cons, List.not_mem_nil, or_false] at hf
    rcases hf with rfl | rfl | rfl | rfl | rfl | rfl | rfl | rfl | rfl | rfl | rfl | rfl | rfl | rfl | rfl | rfl | rfl <;> intro v a b h g <;> first | exact IsV.mono h | exact BoxV.mono h g | exact BoxC.mono h g
  · intro p hp
    simp only [List.mem_cons, List.not_mem_nil, or_false] at hp
    rcases hp with rfl
    · refine ⟨fun a b h1 h2 => StD.below (Nat.le_refl _) h1 h1.size h2, ?_⟩
      intro f hf
      simp only [List.eraseIdx_cons_succ, List.eraseIdx_cons_zero, List.mem_cons, List.not_mem_nil, or_false] at hf
      rcases hf with rfl | rfl | rfl | rfl | rfl | rfl | rfl | rfl | rfl | rfl | rfl | rfl | rfl | rfl | rfl | rfl <;> intro v a b h g <;> first | exact IsV.st h g | exact BoxV.st h g | exact BoxC.st (by decide) h g
  · refine ⟨?_, ?_, ?_, ?_, ?_, ?_, ?_, ?_, ?_, ?_, ?_, ?_, ?_, ?_, ?_, ?_, ?_, trivial⟩
    · refine OwesG.mk2 (D := Gw) (F' := fun j => ([IsV (.pointer (some ⟨R, 0, none⟩)), IsV (.pointer (some ⟨R, 0, none⟩)), IsV (.pointer (some ⟨R, 0, none⟩)), IsV (.slice A L c), IsV (.slice B N cl), IsV (.int .i64 (i : Int)), IsV (.pointer (some (ad2.add i))), IsV (.int .i64 (a : Int)), IsV (.pointer (some (ad.add a))), IsV (.int .u64 (U64 x)), IsV (.tuple #[.agg #[.int .i64 P, .int .i64 n, .bool false, .int .i64 0], .int .i64 0]), IsV (.tuple #[.agg #[.int .i64 P, .int .i64 n, .bool false, .int .i64 0], .int .i64 0]), IsV (.agg #[.int .i64 P, .int .i64 n, .bool false, .int .i64 0]), IsV (.int .i64 0), BoxV 74 4 w.heap.size, fun _ _ => True, IsV (.int .i64 0)] : List (Value → World → Prop)).getD j fun _ _ => True) rfl hGs (fun v w h => h) ?_
      exact owes_mvD gw_self 0 (by kernel_rfl) (by kernel_rfl) (by kernel_rfl) sl0 (fun _ => rfl)
    · refine OwesG.mk2 (D := Gw) (F' := fun j => ([IsV (.pointer (some ⟨R, 0, none⟩)), IsV (.pointer (some ⟨R, 0, none⟩)), IsV (.pointer (some ⟨R, 0, none⟩)), IsV (.slice A L c), IsV (.slice B N cl), IsV (.int .i64 (i : Int)), IsV (.pointer (some (ad2.add i))), IsV (.int .i64 (a : Int)), IsV (.pointer (some (ad.add a))), IsV (.int .u64 (U64 x)), IsV (.tuple #[.agg #[.int .i64 P, .int .i64 n, .bool false, .int .i64 0], .int .i64 0]), IsV (.tuple #[.agg #[.int .i64 P, .int .i64 n, .bool false, .int .i64 0], .int .i64 0]), IsV (.agg #[.int .i64 P, .int .i64 n, .bool false, .int .i64 0]), IsV (.int .i64 0), BoxV 74 4 w.heap.size, fun _ _ => True, IsV (.int .i64 0)] : List (Value → World → Prop)).getD j fun _ _ => True) rfl hGs (fun v w h => h) ?_
      refine owes_vD (Go.Op.nilCheck (Go.Operand.tmp 23)) 0 [0] (by kernel_rfl) (by kernel_rfl) (by kernel_rfl) rfl fun vals w1 ρ hG hF hρ hcst hfun => ?_
      have e23 : ρ (.tmp 23) = .pointer (some ⟨R, 0, none⟩) := ((hρ 23).trans (slotJ [0] (by rw [hsz]; decide) (by kernel_rfl))).trans (hF 0 (by decide))
      clear hρ hF hGs hcst hfun sl0 sl3 sl5 fin
      exact opv_val (by go_simp <;> rfl) ⟨gw_self _, rfl⟩
    · refine OwesG.mk2 (D := Gw) (F' := fun j => ([IsV (.pointer (some ⟨R, 0, none⟩)), IsV (.pointer (some ⟨R, 0, none⟩)), IsV (.pointer (some ⟨R, 0, none⟩)), IsV (.slice A L c), IsV (.slice B N cl), IsV (.int .i64 (i : Int)), IsV (.pointer (some (ad2.add i))), IsV (.int .i64 (a : Int)), IsV (.pointer (some (ad.add a))), IsV (.int .u64 (U64 x)), IsV (.tuple #[.agg #[.int .i64 P, .int .i64 n, .bool false, .int .i64 0], .int .i64 0]), IsV (.tuple #[.agg #[.int .i64 P, .int .i64 n, .bool false, .int .i64 0], .int .i64 0]), IsV (.agg #[.int .i64 P, .int .i64 n, .bool false, .int .i64 0]), IsV (.int .i64 0), BoxV 74 4 w.heap.size, fun _ _ => True, IsV (.int .i64 0)] : List (Value → World → Prop)).getD j fun _ _ => True) rfl hGs (fun v w h => h) ?_
      refine owes_vD (Go.Op.fieldAddr 29 (Go.Operand.tmp 24) 0) 0 [1] (by kernel_rfl) (by kernel_rfl) (by kernel_rfl) rfl fun vals w1 ρ hG hF hρ hcst hfun => ?_
      have e24 : ρ (.tmp 24) = .pointer (some ⟨R, 0, none⟩) := ((hρ 24).trans (slotJ [1] (by rw [hsz]; decide) (by kernel_rfl))).trans (hF 1 (by decide))
      clear hρ hF hGs hcst hfun sl0 sl3 sl5 fin
      exact opv_val (by go_simp <;> rfl) ⟨gw_self _, rfl⟩
    · refine OwesG.mk2 (D := Gw) (F' := fun j => ([IsV (.pointer (some ⟨R, 0, none⟩)), IsV (.pointer (some ⟨R, 0, none⟩)), IsV (.pointer (some ⟨R, 0, none⟩)), IsV (.slice A L c), IsV (.slice B N cl), IsV (.int .i64 (i : Int)), IsV (.pointer (some (ad2.add i))), IsV (.int .i64 (a : Int)), IsV (.pointer (some (ad.add a))), IsV (.int .u64 (U64 x)), IsV (.tuple #[.agg #[.int .i64 P, .int .i64 n, .bool false, .int .i64 0], .int .i64 0]), IsV (.tuple #[.agg #[.int .i64 P, .int .i64 n, .bool false, .int .i64 0], .int .i64 0]), IsV (.agg #[.int .i64 P, .int .i64 n, .bool false, .int .i64 0]), IsV (.int .i64 0), BoxV 74 4 w.heap.size, fun _ _ => True, IsV (.int .i64 0)] : List (Value → World → Prop)).getD j fun _ _ => True) rfl hGs (fun v w h => h) ?_
      refine owes_vD (Go.Op.load 22 (Go.Operand.tmp 25)) 22 [2] (by kernel_rfl) (by kernel_rfl) (by kernel_rfl) rfl fun vals w1 ρ hG hF hρ hcst hfun => ?_
      have e25 : ρ (.tmp 25) = .pointer (some ⟨R, 0, none⟩) := ((hρ 25).trans (slotJ [2] (by rw [hsz]; decide) (by kernel_rfl))).trans (hF 2 (by decide))
      have k := (hG.cell (p := ⟨R, 0, none⟩) hR).trans c0
      clear hρ hF hGs hcst hfun sl0 sl3 sl5 fin
      exact opv_val (by go_simp <;> rfl) ⟨gw_self _, rfl⟩
    · refine OwesG.mk2 (D := Gw) (F' := fun j => ([IsV (.pointer (some ⟨R, 0, none⟩)), IsV (.pointer (some ⟨R, 0, none⟩)), IsV (.pointer (some ⟨R, 0, none⟩)), IsV (.slice A L c), IsV (.slice B N cl), IsV (.int .i64 (i : Int)), IsV (.pointer (some (ad2.add i))), IsV (.int .i64 (a : Int)), IsV (.pointer (some (ad.add a))), IsV (.int .u64 (U64 x)), IsV (.tuple #[.agg #[.int .i64 P, .int .i64 n, .bool false, .int .i64 0], .int .i64 0]), IsV (.tuple #[.agg #[.int .i64 P, .int .i64 n, .bool false, .int .i64 0], .int .i64 0]), IsV (.agg #[.int .i64 P, .int .i64 n, .bool false, .int .i64 0]), IsV (.int .i64 0), BoxV 74 4 w.heap.size, fun _ _ => True, IsV (.int .i64 0)] : List (Value → World → Prop)).getD j fun _ _ => True) rfl hGs (fun v w h => h) ?_
      exact owes_mvD gw_self 3 (by kernel_rfl) (by kernel_rfl) (by kernel_rfl) sl3 (fun _ => rfl)
    · refine OwesG.mk2 (D := Gw) (F' := fun j => ([IsV (.pointer (some ⟨R, 0, none⟩)), IsV (.pointer (some ⟨R, 0, none⟩)), IsV (.pointer (some ⟨R, 0, none⟩)), IsV (.slice A L c), IsV (.slice B N cl), IsV (.int .i64 (i : Int)), IsV (.pointer (some (ad2.add i))), IsV (.int .i64 (a : Int)), IsV (.pointer (some (ad.add a))), IsV (.int .u64 (U64 x)), IsV (.tuple #[.agg #[.int .i64 P, .int .i64 n, .bool false, .int .i64 0], .int .i64 0]), IsV (.tuple #[.agg #[.int .i64 P, .int .i64 n, .bool false, .int .i64 0], .int .i64 0]), IsV (.agg #[.int .i64 P, .int .i64 n, .bool false, .int .i64 0]), IsV (.int .i64 0), BoxV 74 4 w.heap.size, fun _ _ => True, IsV (.int .i64 0)] : List (Value → World → Prop)).getD j fun _ _ => True) rfl hGs (fun v w h => h) ?_
      exact owes_mvD gw_self 5 (by kernel_rfl) (by kernel_rfl) (by kernel_rfl) sl5 (fun _ => rfl)
    · refine OwesG.mk2 (D := Gw) (F' := fun j => ([IsV (.pointer (some ⟨R, 0, none⟩)), IsV (.pointer (some ⟨R, 0, none⟩)), IsV (.pointer (some ⟨R, 0, none⟩)), IsV (.slice A L c), IsV (.slice B N cl), IsV (.int .i64 (i : Int)), IsV (.pointer (some (ad2.add i))), IsV (.int .i64 (a : Int)), IsV (.pointer (some (ad.add a))), IsV (.int .u64 (U64 x)), IsV (.tuple #[.agg #[.int .i64 P, .int .i64 n, .bool false, .int .i64 0], .int .i64 0]), IsV (.tuple #[.agg #[.int .i64 P, .int .i64 n, .bool false, .int .i64 0], .int .i64 0]), IsV (.agg #[.int .i64 P, .int .i64 n, .bool false, .int .i64 0]), IsV (.int .i64 0), BoxV 74 4 w.heap.size, fun _ _ => True, IsV (.int .i64 0)] : List (Value → World → Prop)).getD j fun _ _ => True) rfl hGs (fun v w h => h) ?_
      refine owes_vD (Go.Op.indexAddr 62 (Go.Operand.tmp 27) (Go.Operand.tmp 28)) 0 [4, 5] (by kernel_rfl) (by kernel_rfl) (by kernel_rfl) rfl fun vals w1 ρ hG hF hρ hcst hfun => ?_
      have e27 : ρ (.tmp 27) = .slice B N cl := ((hρ 27).trans (slotJ [4, 5] (by rw [hsz]; decide) (by kernel_rfl))).trans (hF 4 (by decide))
      have e28 : ρ (.tmp 28) = .int .i64 (i : Int) := ((hρ 28).trans (slotJ [4, 5] (by rw [hsz]; decide) (by kernel_rfl))).trans (hF 5 (by decide))
      subst hB
      clear hρ hF hGs hcst hfun sl0 sl3 sl5 fin
      exact opv_val (by go_simp <;> rfl) ⟨gw_self _, rfl⟩
    · refine OwesG.mk2 (D := Gw) (F' := fun j => ([IsV (.pointer (some ⟨R, 0, none⟩)), IsV (.pointer (some ⟨R, 0, none⟩)), IsV (.pointer (some ⟨R, 0, none⟩)), IsV (.slice A L c), IsV (.slice B N cl), IsV (.int .i64 (i : Int)), IsV (.pointer (some (ad2.add i))), IsV (.int .i64 (a : Int)), IsV (.pointer (some (ad.add a))), IsV (.int .u64 (U64 x)), IsV (.tuple #[.agg #[.int .i64 P, .int .i64 n, .bool false, .int .i64 0], .int .i64 0]), IsV (.tuple #[.agg #[.int .i64 P, .int .i64 n, .bool false, .int .i64 0], .int .i64 0]), IsV (.agg #[.int .i64 P, .int .i64 n, .bool false, .int .i64 0]), IsV (.int .i64 0), BoxV 74 4 w.heap.size, fun _ _ => True, IsV (.int .i64 0)] : List (Value → World → Prop)).getD j fun _ _ => True) rfl hGs (fun v w h => h) ?_
      refine owes_vD (Go.Op.load 3 (Go.Operand.tmp 29)) 3 [6] (by kernel_rfl) (by kernel_rfl) (by kernel_rfl) rfl fun vals w1 ρ hG hF hρ hcst hfun => ?_
      have e29 : ρ (.tmp 29) = .pointer (some (ad2.add i)) := ((hρ 29).trans (slotJ [6] (by rw [hsz]; decide) (by kernel_rfl))).trans (hF 6 (by decide))
      have k := (hG.cell (p := ad2.add i) hlt).trans cl1
      clear hρ hF hGs hcst hfun sl0 sl3 sl5 fin
      exact opv_val (by go_simp <;> rfl) ⟨gw_self _, rfl⟩
    · refine OwesG.mk2 (D := Gw) (F' := fun j => ([IsV (.pointer (some ⟨R, 0, none⟩)), IsV (.pointer (some ⟨R, 0, none⟩)), IsV (.pointer (some ⟨R, 0, none⟩)), IsV (.slice A L c), IsV (.slice B N cl), IsV (.int .i64 (i : Int)), IsV (.pointer (some (ad2.add i))), IsV (.int .i64 (a : Int)), IsV (.pointer (some (ad.add a))), IsV (.int .u64 (U64 x)), IsV (.tuple #[.agg #[.int .i64 P, .int .i64 n, .bool false, .int .i64 0], .int .i64 0]), IsV (.tuple #[.agg #[.int .i64 P, .int .i64 n, .bool false, .int .i64 0], .int .i64 0]), IsV (.agg #[.int .i64 P, .int .i64 n, .bool false, .int .i64 0]), IsV (.int .i64 0), BoxV 74 4 w.heap.size, fun _ _ => True, IsV (.int .i64 0)] : List (Value → World → Prop)).getD j fun _ _ => True) rfl hGs (fun v w h => h) ?_
      refine owes_vD (Go.Op.indexAddr 22 (Go.Operand.tmp 26) (Go.Operand.tmp 30)) 0 [3, 7] (by kernel_rfl) (by kernel_rfl) (by kernel_rfl) rfl fun vals w1 ρ hG hF hρ hcst hfun => ?_
      have e26 : ρ (.tmp 26) = .slice A L c := ((hρ 26).trans (slotJ [3, 7] (by rw [hsz]; decide) (by kernel_rfl))).trans (hF 3 (by decide))
      have e30 : ρ (.tmp 30) = .int .i64 (a : Int) := ((hρ 30).trans (slotJ [3, 7] (by rw [hsz]; decide) (by kernel_rfl))).trans (hF 7 (by decide))
      subst hA
      clear hρ hF hGs hcst hfun sl0 sl3 sl5 fin
      exact opv_val (by go_simp <;> rfl) ⟨gw_self _, rfl⟩
    · refine OwesG.mk2 (D := Gw) (F' := fun j => ([IsV (.pointer (some ⟨R, 0, none⟩)), IsV (.pointer (some ⟨R, 0, none⟩)), IsV (.pointer (some ⟨R, 0, none⟩)), IsV (.slice A L c), IsV (.slice B N cl), IsV (.int .i64 (i : Int)), IsV (.pointer (some (ad2.add i))), IsV (.int .i64 (a : Int)), IsV (.pointer (some (ad.add a))), IsV (.int .u64 (U64 x)), IsV (.tuple #[.agg #[.int .i64 P, .int .i64 n, .bool false, .int .i64 0], .int .i64 0]), IsV (.tuple #[.agg #[.int .i64 P, .int .i64 n, .bool false, .int .i64 0], .int .i64 0]), IsV (.agg #[.int .i64 P, .int .i64 n, .bool false, .int .i64 0]), IsV (.int .i64 0), BoxV 74 4 w.heap.size, fun _ _ => True, IsV (.int .i64 0)] : List (Value → World → Prop)).getD j fun _ _ => True) rfl hGs (fun v w h => h) ?_
      refine owes_vD (Go.Op.load 68 (Go.Operand.tmp 31)) 68 [8] (by kernel_rfl) (by kernel_rfl) (by kernel_rfl) rfl fun vals w1 ρ hG hF hρ hcst hfun => ?_
      have e31 : ρ (.tmp 31) = .pointer (some (ad.add a)) := ((hρ 31).trans (slotJ [8] (by rw [hsz]; decide) (by kernel_rfl))).trans (hF 8 (by decide))
      have k := (hG.cell (p := ad.add a) hlt2).trans cw
      clear hρ hF hGs hcst hfun sl0 sl3 sl5 fin
      exact opv_val (by go_simp <;> rfl) ⟨gw_self _, rfl⟩
    · refine OwesG.mk2 (D := Gw) (F' := fun j => ([IsV (.pointer (some ⟨R, 0, none⟩)), IsV (.pointer (some ⟨R, 0, none⟩)), IsV (.pointer (some ⟨R, 0, none⟩)), IsV (.slice A L c), IsV (.slice B N cl), IsV (.int .i64 (i : Int)), IsV (.pointer (some (ad2.add i))), IsV (.int .i64 (a : Int)), IsV (.pointer (some (ad.add a))), IsV (.int .u64 (U64 x)), IsV (.tuple #[.agg #[.int .i64 P, .int .i64 n, .bool false, .int .i64 0], .int .i64 0]), IsV (.tuple #[.agg #[.int .i64 P, .int .i64 n, .bool false, .int .i64 0], .int .i64 0]), IsV (.agg #[.int .i64 P, .int .i64 n, .bool false, .int .i64 0]), IsV (.int .i64 0), BoxV 74 4 w.heap.size, fun _ _ => True, IsV (.int .i64 0)] : List (Value → World → Prop)).getD j fun _ _ => True) rfl hGs (fun v w h => h) ?_
      refine owes_vD (Go.Op.call { callee := Go.Callee.value (Go.Operand.func 46), args := #[Go.Operand.tmp 32], argTypes := #[68] }) 75 [9] (by kernel_rfl) (by kernel_rfl) (by kernel_rfl) rfl fun vals w1 ρ hG hF hρ hcst hfun => ?_
      have e32 : ρ (.tmp 32) = .int .u64 (U64 x) := ((hρ 32).trans (slotJ [9] (by rw [hsz]; decide) (by kernel_rfl))).trans (hF 9 (by decide))
      clear hρ hF hGs hcst sl0 sl3 sl5 fin
      exact opv_enter (by go_simp <;> rfl) (of_ret (hp.out w1))
    · refine OwesG.mk2 (D := Gw) (F' := fun j => ([IsV (.pointer (some ⟨R, 0, none⟩)), IsV (.pointer (some ⟨R, 0, none⟩)), IsV (.pointer (some ⟨R, 0, none⟩)), IsV (.slice A L c), IsV (.slice B N cl), IsV (.int .i64 (i : Int)), IsV (.pointer (some (ad2.add i))), IsV (.int .i64 (a : Int)), IsV (.pointer (some (ad.add a))), IsV (.int .u64 (U64 x)), IsV (.tuple #[.agg #[.int .i64 P, .int .i64 n, .bool false, .int .i64 0], .int .i64 0]), IsV (.tuple #[.agg #[.int .i64 P, .int .i64 n, .bool false, .int .i64 0], .int .i64 0]), IsV (.agg #[.int .i64 P, .int .i64 n, .bool false, .int .i64 0]), IsV (.int .i64 0), BoxV 74 4 w.heap.size, fun _ _ => True, IsV (.int .i64 0)] : List (Value → World → Prop)).getD j fun _ _ => True) rfl hGs (fun v w h => h) ?_
      exact owes_mvjD gw_self 10 33 (by kernel_rfl) (by kernel_rfl) (by kernel_rfl) (by kernel_rfl) (by rw [hsz]; decide) (fun v w h => h)
    · refine OwesG.mk2 (D := Gw) (F' := fun j => ([IsV (.pointer (some ⟨R, 0, none⟩)), IsV (.pointer (some ⟨R, 0, none⟩)), IsV (.pointer (some ⟨R, 0, none⟩)), IsV (.slice A L c), IsV (.slice B N cl), IsV (.int .i64 (i : Int)), IsV (.pointer (some (ad2.add i))), IsV (.int .i64 (a : Int)), IsV (.pointer (some (ad.add a))), IsV (.int .u64 (U64 x)), IsV (.tuple #[.agg #[.int .i64 P, .int .i64 n, .bool false, .int .i64 0], .int .i64 0]), IsV (.tuple #[.agg #[.int .i64 P, .int .i64 n, .bool false, .int .i64 0], .int .i64 0]), IsV (.agg #[.int .i64 P, .int .i64 n, .bool false, .int .i64 0]), IsV (.int .i64 0), BoxV 74 4 w.heap.size, fun _ _ => True, IsV (.int .i64 0)] : List (Value → World → Prop)).getD j fun _ _ => True) rfl hGs (fun v w h => h) ?_
      refine owes_vD (Go.Op.extract (Go.Operand.tmp 22) 0) 74 [11] (by kernel_rfl) (by kernel_rfl) (by kernel_rfl) rfl fun vals w1 ρ hG hF hρ hcst hfun => ?_
      have e22 : ρ (.tmp 22) = .tuple #[.agg #[.int .i64 P, .int .i64 n, .bool false, .int .i64 0], .int .i64 0] := ((hρ 22).trans (slotJ [11] (by rw [hsz]; decide) (by kernel_rfl))).trans (hF 11 (by decide))
      clear hρ hF hGs hcst hfun sl0 sl3 sl5 fin
      exact opv_val (by go_simp <;> rfl) ⟨gw_self _, rfl⟩
    · refine OwesG.mk2 (D := Gw) (F' := fun j => ([IsV (.pointer (some ⟨R, 0, none⟩)), IsV (.pointer (some ⟨R, 0, none⟩)), IsV (.pointer (some ⟨R, 0, none⟩)), IsV (.slice A L c), IsV (.slice B N cl), IsV (.int .i64 (i : Int)), IsV (.pointer (some (ad2.add i))), IsV (.int .i64 (a : Int)), IsV (.pointer (some (ad.add a))), IsV (.int .u64 (U64 x)), IsV (.tuple #[.agg #[.int .i64 P, .int .i64 n, .bool false, .int .i64 0], .int .i64 0]), IsV (.tuple #[.agg #[.int .i64 P, .int .i64 n, .bool false, .int .i64 0], .int .i64 0]), IsV (.agg #[.int .i64 P, .int .i64 n, .bool false, .int .i64 0]), IsV (.int .i64 0), BoxV 74 4 w.heap.size, fun _ _ => True, IsV (.int .i64 0)] : List (Value → World → Prop)).getD j fun _ _ => True) rfl hGs (fun v w h => h) ?_
      refine owes_vD (Go.Op.extract (Go.Operand.tmp 22) 1) 3 [11] (by kernel_rfl) (by kernel_rfl) (by kernel_rfl) rfl fun vals w1 ρ hG hF hρ hcst hfun => ?_
      have e22 : ρ (.tmp 22) = .tuple #[.agg #[.int .i64 P, .int .i64 n, .bool false, .int .i64 0], .int .i64 0] := ((hρ 22).trans (slotJ [11] (by rw [hsz]; decide) (by kernel_rfl))).trans (hF 11 (by decide))
      clear hρ hF hGs hcst hfun sl0 sl3 sl5 fin
      exact opv_val (by go_simp <;> rfl) ⟨gw_self _, rfl⟩
    · refine OwesG.mk2 (D := Gw) (F' := fun j => ([IsV (.pointer (some ⟨R, 0, none⟩)), IsV (.pointer (some ⟨R, 0, none⟩)), IsV (.pointer (some ⟨R, 0, none⟩)), IsV (.slice A L c), IsV (.slice B N cl), IsV (.int .i64 (i : Int)), IsV (.pointer (some (ad2.add i))), IsV (.int .i64 (a : Int)), IsV (.pointer (some (ad.add a))), IsV (.int .u64 (U64 x)), IsV (.tuple #[.agg #[.int .i64 P, .int .i64 n, .bool false, .int .i64 0], .int .i64 0]), IsV (.tuple #[.agg #[.int .i64 P, .int .i64 n, .bool false, .int .i64 0], .int .i64 0]), IsV (.agg #[.int .i64 P, .int .i64 n, .bool false, .int .i64 0]), IsV (.int .i64 0), BoxV 74 4 w.heap.size, fun _ _ => True, IsV (.int .i64 0)] : List (Value → World → Prop)).getD j fun _ _ => True) rfl hGs (fun v w h => h) ?_
      refine owes_vD (Go.Op.alloc 74) 0 [] (by kernel_rfl) (by kernel_rfl) (by kernel_rfl) rfl fun vals w1 ρ hG hF hρ hcst hfun => ?_
      clear hρ hF hGs hcst hfun sl0 sl3 sl5 fin
      exact opv_val (by go_simp <;> rfl) ⟨Gw.alloc _ _, ⟨_, _, rfl, hG.size, rfl, Bk.new _ _ _⟩⟩
    · exact owes_box (type := 0) (tp := 6) (tv := 34) (jp := 14) (jv := 12) (cs := #[.int .i64 P, .int .i64 n, .bool false, .int .i64 0]) (by kernel_rfl) (by kernel_rfl) (by kernel_rfl) (by kernel_rfl) (by kernel_rfl) (by kernel_rfl) (by rw [hsz]; decide) (by rw [hsz]; decide) (by decide) rfl rfl rfl (by kernel_rfl) rfl (by simp [Value.oneCell']) (fun _ _ h => h) (fun _ _ h => h) (fun _ _ h => h)
    · refine OwesG.mk2 (D := Gw) (F' := fun j => ([IsV (.pointer (some ⟨R, 0, none⟩)), IsV (.pointer (some ⟨R, 0, none⟩)), IsV (.pointer (some ⟨R, 0, none⟩)), IsV (.slice A L c), IsV (.slice B N cl), IsV (.int .i64 (i : Int)), IsV (.pointer (some (ad2.add i))), IsV (.int .i64 (a : Int)), IsV (.pointer (some (ad.add a))), IsV (.int .u64 (U64 x)), IsV (.tuple #[.agg #[.int .i64 P, .int .i64 n, .bool false, .int .i64 0], .int .i64 0]), IsV (.tuple #[.agg #[.int .i64 P, .int .i64 n, .bool false, .int .i64 0], .int .i64 0]), IsV (.agg #[.int .i64 P, .int .i64 n, .bool false, .int .i64 0]), IsV (.int .i64 0), BoxV 74 4 w.heap.size, fun _ _ => True, IsV (.int .i64 0)] : List (Value → World → Prop)).getD j fun _ _ => True) rfl hGs (fun v w h => h) ?_
      exact owes_mvjD gw_self 13 35 (by kernel_rfl) (by kernel_rfl) (by kernel_rfl) (by kernel_rfl) (by rw [hsz]; decide) (fun v w h => h)
  · intro vals w1 hG hF
    exact fin vals w1 hG (hF 15 (by decide +kernel)) (hF 16 (by decide +kernel))
theorem wellN_no {ws : List (BitVec 64)} {l : List Nat} {a k : Nat} {R : Int} (hR : R = if l.all (wellN ws l) = true then 0 else 2) (ha : a ∈ l) (hk : k < P0 (ws.getD a 0#64)) (h : ptrN ws l a k = false) : R = 2 := by
  rw [hR, if_neg (all_no ha ?_)]
  unfold wellN
  rw [Bool.and_eq_false_iff]
  left
  cases h2 : (List.range (P0 (ws.getD a 0#64))).all (ptrN ws l a) with
  | false => rfl
  | true =>
    have := List.all_eq_true.1 h2 k (List.mem_range.2 hk)
    rw [h] at this; cases this
theorem wellN_np {ws : List (BitVec 64)} {l : List Nat} {a : Nat} {R : Int} (hR : R = if l.all (wellN ws l) = true then 0 else 2) (ha : a ∈ l) (h : padN ws a = false) : R = 2 := by
  rw [hR, if_neg (all_no ha ?_)]
  unfold wellN
  rw [h, Bool.and_false]
set_option maxHeartbeats 4000000
theorem rwell_c (w : World) (s : Nat) (A : Option Addr) (c : Nat) (ws : List (BitVec 64)) (b t e : Nat) (p : RefAt w s A c ws b t e) (hbt : b ≤ t) (htw : t ≤ ws.length) (hl : ws.length ≤ 8192) :
    Calls Tryd.prog 19 #[.pointer (some ⟨s, 0, none⟩)] w (RetP (.int .i64 (wellE ws b t)) w) := by
  have HOb := Lib.hid (robjects_c w s A c ws b t e p hbt htw (by omega))
  obtain ⟨R, hR⟩ : ∃ R, R = wellE ws b t := ⟨_, rfl⟩
  rw [← hR]
  have HR := Lib.hid hR
  have HP := Lib.hid p
  have HL := Lib.hid hl
  have HT := Lib.hid htw
  obtain ⟨N0, hN0⟩ : ∃ N, N = ws.length := ⟨_, rfl⟩
  have HN0 := Lib.hid hN0
  clear hR p hl hbt htw hN0
  cases ho : objF ws t (t + 1) b with
  | none =>
    rw [ho] at HOb
    have HOb2 := Lib.hid (show Calls Tryd.prog 45 #[.pointer (some ⟨s, 0, none⟩)] w (RetP (.tuple #[.slice none 0 0, .bool false]) w) from HOb.out)
    obtain rfl : R = 2 := by rw [HR.out]; exact well_none ho
    clear HOb ho HR
    go_enter Tryd.func19, Tryd.ntmps19
    go_wp2_with fail
    refine Calls.mono HOb2.out ?_
    rintro r w2 ⟨rfl, b2⟩
    have HB2 := Lib.hid b2
    clear b2
    go_wp2_with fail
    go_ret
    exact ⟨rfl, HB2.out⟩
  | some l =>
    rw [ho] at HOb
    have HOb2 := Lib.hid (show Calls Tryd.prog 45 #[.pointer (some ⟨s, 0, none⟩)] w (fun e w' => ∃ A c, e = .returned (.tuple #[.slice A l.length c, .bool true]) ∧ l.length ≤ c ∧ Ow iN 3 w' w.heap.size (.slice A l.length c) l ∧ Below w.heap.size w w') from HOb.out)
    have HRl := Lib.hid (show R = if l.all (wellN ws l) = true then 0 else 2 from by rw [HR.out]; exact well_some ho)
    have HMem := Lib.hid (objF_mem _ _ _ ho)
    have hlen := objF_len _ _ _ ho
    obtain ⟨N, hN⟩ : ∃ N, N = l.length := ⟨_, rfl⟩
    have qN : (N : Int) ≤ 8193 := by have := HT.out; have := HL.out; omega
    have HN := Lib.hid hN
    clear HOb ho HR hlen hN
    go_enter Tryd.func19, Tryd.ntmps19
    go_wp2_with fail
    refine Calls.mono HOb2.out ?_
    rintro r w2 ⟨B, cl, rfl, hc, ho, b2⟩
    have HB2 := Lib.hid b2
    have HRd := Lib.hid ho.rd
    rw [← HN.out]
    clear hc ho b2 HOb2
    go_wp2_with fail
    go_loopw [5] (fun i W => ∃ k : Nat, i = .int .i64 k ∧ k ≤ N ∧ Hid ((l.take k).all (wellN ws l) = true) ∧ Hid (Below w2.heap.size w2 W)) (fun i _ => N - (Go.RowKit.intOf i).toNat)
    case atStart => exact ⟨0, rfl, Nat.zero_le _, Lib.hid rfl, Lib.hid (Below.refl _ _)⟩
    case round =>
      obtain ⟨k, rfl, hk, hW, hB⟩ := hrel
      by_cases hlt : k < N
      · have hkl : k < l.length := by rw [← HN.out]; exact hlt
        obtain ⟨a, ha⟩ : ∃ a, a = l[k] := ⟨_, rfl⟩
        have ham : a ∈ l := by rw [ha]; exact List.getElem_mem _
        obtain ⟨hab, hat, hag⟩ := HMem.out a ham
        obtain ⟨ad2, rfl, hb2, hc⟩ := (HRd.out.below hB.out) k hkl
        rw [← ha] at hc
        unfold iN at hc
        have haN : a < N0 := by have := HT.out; have := HN0.out; omega
        have hp0 := HP.out.below (HB2.out.trans (hB.out.mono HB2.out.size))
        obtain ⟨d0, _⟩ := hp0.four
        rw [← HN0.out] at d0
        obtain ⟨ad, hA, hb3, hcw⟩ := hp0.rd a (by rw [← HN0.out]; exact haN)
        have hxx : u64v ws[a] = .int .u64 (U64 (ws.getD a 0#64)) := by simp [List.getD, (by rw [← HN0.out]; exact haN : a < ws.length), u64v]
        rw [hxx] at hcw
        obtain ⟨hun, hP64, hB1024, hsz, hsh, hroom⟩ := head_of hag
        have HUn := Lib.hid (fun W => hun ▸ runpack_c (ws.getD a 0#64) W)
        have HTk := Lib.hid (show l.take (k + 1) = l.take k ++ [a] from by rw [List.take_succ_eq_append_getElem hkl, ha])
        have HWp := Lib.hid (fun j (hj : j < P0 (ws.getD a 0#64)) (h : ptrN ws l a j = false) => wellN_no HRl.out ham hj h)
        have HWq := Lib.hid (fun (h : padN ws a = false) => wellN_np HRl.out ham h)
        have hpe : padB ws (8 * (a + 1 + P0 (ws.getD a 0#64)) + B0 (ws.getD a 0#64)) (8 * (a + szX (ws.getD a 0#64)) - (8 * (a + 1 + P0 (ws.getD a 0#64)) + B0 (ws.getD a 0#64))) = padN ws a := rfl
        have HPd := Lib.hid (fun W (hr : RefAt W s A c ws b t e) => hpe ▸ rpad_c W s A c ws b t e hr (by have := HL.out; omega) a (P0 (ws.getD a 0#64)) (B0 (ws.getD a 0#64)) (szX (ws.getD a 0#64)) hP64 hB1024 hsh (by omega) (by have := HT.out; omega) (by omega))
        have HPt := Lib.hid (fun W (hr : Rd iN W W.heap.size (some ad2) l) x => HN.out ▸ points_c W (some ad2) cl l hr (by rw [← HN.out]; omega) (fun y hy => by have := (HMem.out y hy).2.1; have := HT.out; have := HL.out; omega) x)
        have HWn : wellN ws l a = ((List.range (P0 (ws.getD a 0#64))).all (ptrN ws l a) && padN ws a) := rfl
        have hsz2 : a + 1 + P0 (ws.getD a 0#64) ≤ N0 := by rw [HN0.out]; have := HT.out; omega
        obtain ⟨x, hx⟩ : ∃ x, x = ws.getD a 0#64 := ⟨_, rfl⟩
        rw [← hx] at hcw HUn HWp HPd HWn hP64 hsz2
        obtain ⟨P, hP'⟩ : ∃ P, P = P0 x := ⟨_, rfl⟩
        obtain ⟨n, hn'⟩ : ∃ P, P = B0 x := ⟨_, rfl⟩
        rw [← hP'] at HUn HWp HPd HWn hP64 hsz2
        rw [← hn'] at HUn HPd
        have HWn2 := Lib.hid (And.intro HWn ham)
        have q0 : (0 : Int) ≤ (k : Int) := by omega
        have q1 : (k : Int) < (N : Int) := by omega
        have q2 : (0 : Int) ≤ (a : Int) := by omega
        have q6 : (a : Int) < (N0 : Int) := by omega
        have qP : (P : Int) ≤ 64 := by omega
        have qs : (a : Int) + 1 + (P : Int) ≤ (N0 : Int) := by omega
        have qn0 : (N0 : Int) ≤ 8192 := by have := HL.out; have := HN0.out; omega
        have hR : s < wr.heap.size := hp0.blk.lt
        have hlt1 : (ad2.add k).block < wr.heap.size := by rw [add_block]; exact Nat.lt_of_lt_of_le hb2 hB.out.size
        have hlt2 : (ad.add a).block < wr.heap.size := by rw [add_block]; exact hb3
        have HC0 := Lib.hid (And.intro hp0 (And.intro hc (And.intro hA (And.intro hb2 hb3))))
        clear ha hab hat hag hun hsz hsh hroom hpe HWn hP64 hB1024 hsz2 hx hP' hn' hxx haN ham hkl hp0
        go_wp2_with fail
        refine rw7 _ _ _ s a k N A (some ad2) N0 c cl x (P : Int) (n : Int) hR ad ad2 hA rfl d0 hlt1 hlt2 hc q0 q1 q2 q6 hcw HUn rfl rfl rfl rfl ?_
        intro vals w3 hG hbx h7
        obtain ⟨hk3, ek, hk3B, hbk⟩ := hbx
        unfold IsV at h7
        simp only [putO, Act.put, List.setIfInBounds_toArray, List.set_cons_zero, List.set_cons_succ, ek, h7]
        have H3 := Lib.hid (And.intro hbk (And.intro (hB.out.trans (hG.mono hB.out.size)) hG))
        clear hG h7 ek hbk hc hcw d0 hlt1 hlt2 hR HUn
        go_wp2_with fail
        go_loopw [8] (fun i W => ∃ j : Nat, i = .int .i64 j ∧ j ≤ P ∧ Hid ((List.range j).all (ptrN ws l a) = true) ∧ Hid (Below w3.heap.size w3 W)) (fun i _ => P - (Go.RowKit.intOf i).toNat)
        case atStart => exact ⟨0, rfl, Nat.zero_le _, Lib.hid rfl, Lib.hid (Below.refl _ _)⟩
        case round =>
          clear hlt hk
          obtain ⟨j, rfl, hj, hA2, hB3⟩ := hrel
          have hk4 := H3.out.1.below hB3.out H3.out.1.lt
          obtain ⟨k0, k1, k2, k3⟩ := hk4.four
          have hklt := hk4.lt
          have hgr := H3.out.2.2.trans (hB3.out.mono H3.out.2.2.size)
          have hp0 := HC0.out.1.below hgr
          obtain ⟨d0, _⟩ := hp0.four
          rw [← HN0.out] at d0
          have hRs : s < wr.heap.size := hp0.blk.lt
          have HBw := Lib.hid (H3.out.2.1.trans (hB3.out.mono H3.out.2.1.size))
          have hRl := Lib.hid ((HRd.out.below HBw.out).more HBw.out.size)
          have hcc : wr.cell? (ad2.add k) = some (.int .i64 (a : Int)) := (hgr.cell (p := ad2.add k) (by rw [add_block]; have := HC0.out.2.2.2.1; have := hB.out.size; omega)).trans HC0.out.2.1
          have hlt1 : (ad2.add k).block < wr.heap.size := by rw [add_block]; have := HC0.out.2.2.2.1; have := HBw.out.size; omega
          by_cases hjt : j < P
          · have hq : a + 1 + j < N0 := by omega
            obtain ⟨q, hqe⟩ : ∃ q, q = a + 1 + j := ⟨_, rfl⟩
            have hqw : q < ws.length := by rw [← HN0.out, hqe]; exact hq
            obtain ⟨ad', hA', hb4, hcy⟩ := hp0.rd q hqw
            have hadd : ad' = ad := by have := HC0.out.2.2.1; rw [hA'] at this; injection this
            subst hadd
            obtain ⟨y, hy⟩ : ∃ y, y = ws.getD q 0#64 := ⟨_, rfl⟩
            have hxx : u64v ws[q] = .int .u64 (U64 y) := by rw [hy]; simp [List.getD, hqw, u64v]
            rw [hxx] at hcy
            have hlt2 : (ad'.add q).block < wr.heap.size := by rw [add_block]; exact hb4
            have hpn : ptrN ws l a j = decide (y.toNat = 0 ∨ (1 ≤ y.toNat ∧ y.toNat - 1 ∈ l)) := by unfold ptrN; rw [hy, hqe]
            obtain ⟨r, hr⟩ : ∃ r, r = ptrN ws l a j := ⟨_, rfl⟩
            have HRg := Lib.hid (show (List.range (j + 1)).all (ptrN ws l a) = r from by rw [List.range_succ, List.all_append, hA2.out, hr]; simp)
            have HNo := Lib.hid (show r = false → R = 2 from fun h => HWp.out j hjt (by rw [← hr]; exact h))
            have HPc := Lib.hid (fun W (hb : Below wr.heap.size wr W) => (hr.trans hpn) ▸ HPt.out W ((hRl.out.below hb).more hb.size) y)
            have e7 : (a : Int) + 1 + (j : Int) = (q : Int) := by omega
            have e8 : (0 : Int) ≤ (q : Int) := by omega
            have e6 : (q : Int) < (N0 : Int) := by omega
            have e5 : (0 : Int) ≤ (j : Int) := by omega
            have e4 : (j : Int) ≤ 100 := by omega
            have e3 : (j : Int) < (P : Int) := by omega
            have e9 : (a : Int) ≤ 100000 := by omega
            clear hy hpn hxx hqw hqe hq hp0 hA2 hr hk4 hgr
            go_wp2_with fail
            refine rw11 _ _ _ s a j q k N A (some ad2) N0 c cl 0 0 0 0 r y hRs ad' ad2 hA rfl d0 hlt1 hlt2 hcc q0 q1 q2 e9 e4 e5 e6 e7 e8 hcy HPc rfl rfl rfl rfl rfl ?_
            intro vals2 w5 hG5 h57
            unfold IsV at h57
            simp only [putD, Act.put, List.setIfInBounds_toArray, List.set_cons_zero, List.set_cons_succ, h57]
            have HB5 := Lib.hid (hB3.out.trans (hG5.mono hB3.out.size))
            clear hG5 h57 k0 k1 k2 k3 d0 hcc hcy hRs hlt1 hlt2
            cases r with
            | false =>
              obtain rfl : R = 2 := HNo.out rfl
              go_wp2_with fail
              go_ret
              exact ⟨rfl, HB2.out.trans ((H3.out.2.1.trans (HB5.out.mono H3.out.2.1.size)).mono HB2.out.size)⟩
            | true =>
              have HX := Lib.hid HRg.out
              clear HNo HRg HPc
              go_wp2_with fail
              go_roundw
              case rel => first | exact ⟨j + 1, by go_num, by omega, HX, HB5⟩ | ((repeat apply Exists.intro); refine ⟨?_, rfl⟩; exact ⟨j + 1, by go_num, by omega, HX, HB5⟩)
              case measure => simp [Go.RowKit.intOf]; omega
          · have hjP : P = j := by omega
            subst hjP
            have HPd2 := Lib.hid (fun W (hb : Below wr.heap.size wr W) => HPd.out W (hp0.below hb))
            obtain ⟨pd, hpd⟩ : ∃ pd, pd = padN ws a := ⟨_, rfl⟩
            rw [← hpd] at HPd2
            have HWv := Lib.hid (show wellN ws l a = pd from by rw [HWn2.out.1, hA2.out, hpd]; rfl)
            have HWq2 := Lib.hid (show pd = false → R = 2 from fun h => HWq.out (by rw [← hpd]; exact h))
            clear hpd hp0 hA2 hjt hj hk4 hgr d0
            go_wp2_with fail
            refine rw13 _ _ _ s a k N hk3 (some ad2) cl (P : Int) (n : Int) (!pd) ad2 rfl hlt1 hcc q0 q1 hklt k0 k1 k2 k3 HPd2 rfl rfl rfl rfl rfl ?_
            intro vals2 w5 hG5 h64
            unfold IsV at h64
            simp only [putD, Act.put, List.setIfInBounds_toArray, List.set_cons_zero, List.set_cons_succ, h64]
            have HB5 := Lib.hid (HBw.out.trans (hG5.mono HBw.out.size))
            clear hG5 h64 k0 k1 k2 k3 hcc hRs hlt1 hklt
            cases pd with
            | false =>
              obtain rfl : R = 2 := HWq2.out rfl
              go_wp2_with fail
              go_ret
              exact ⟨rfl, HB2.out.trans (HB5.out.mono HB2.out.size)⟩
            | true =>
              have HX := Lib.hid (show (l.take (k + 1)).all (wellN ws l) = true from by rw [HTk.out, List.all_append, hW.out]; simp [HWv.out])
              clear HWq2 HPd2 HWv
              go_wp2_with fail
              go_roundw
              case rel => first | exact ⟨k + 1, by go_num, by omega, HX, HB5⟩ | ((repeat apply Exists.intro); refine ⟨?_, rfl⟩; exact ⟨k + 1, by go_num, by omega, HX, HB5⟩)
              case measure => simp [Go.RowKit.intOf]; omega
      · have hkN : N = k := by omega
        have hR0 : R = 0 := by
          rw [HRl.out]
          rw [if_pos]
          have := hW.out
          rwa [← hkN, HN.out, List.take_length] at this
        subst hkN
        subst hR0
        clear hW hlt hk
        go_wp2_with fail
        go_ret
        exact ⟨rfl, HB2.out.trans (hB.out.mono HB2.out.size)⟩
end Go.Proofs.YtfodefgihicafaaDoor
/- How an argument that is a row of structs is opened. No conditions. -/
namespace Go.Proofs.YtfodefgihicafaaDoor
set_option linter.unusedVariables false
set_option linter.unusedSimpArgs false
open Go.ChangeShapes Go.WideShapes Go.ChangeAt Go.RowKit
section
variable {H : Type} {enc : TypeId × Value → H} {P : Program} {w : World} {base : Nat} {spare : Nat → Bool} {held : Bool} {r : Reach} {b0 : Nat}
theorem cell_int {k : IntKind} {n : Nat} {t : TypeId} {u : Value} {y : DataW H × List MemPlace} (ht : P.underlying t = some (.int k)) (h : DataW.trod enc P w base spare held n t [u] = some y) : ∃ a, u = .int k a ∧ (Lit.int k a).wf = true := by
  obtain ⟨a, h, _, hw⟩ := DataW.trod_int ht h
  exact ⟨a, by simpa using h, hw⟩
/-- A cell that is a slice of numbers. -/
theorem cell_nums {α : Type} (f : α → Value) {k : IntKind} {n : Nat} {t e : TypeId} {u : Value} {y : DataW H × List MemPlace} (hf : ∀ z : Int, (Lit.int k z).wf = true → ∃ a, f a = .int k z) (ht : P.underlying t = some (.slice e)) (he : P.underlying e = some (.int k)) (hc : P.cellsOf e = 1) (h : DataW.trod enc P w base spare held n t [u] = some y) :
    ∃ (A : Option Addr) (bs : List α) (c : Nat), u = .slice A bs.length c ∧ bs.length ≤ c ∧ c ≤ maxLen ∧ Rd f w w.heap.size A bs := by
  rcases open_ints ht he hc h with ⟨hcs, _⟩ | ⟨x, l, c, zs, hcs, _, hl, hm, hz, _, hcell, hwz⟩
  · have hu : u = .slice none 0 0 := by simpa using hcs
    exact ⟨none, [], 0, hu, Nat.le_refl _, by simp [maxLen], Rd.nil⟩
  · have hu : u = .slice (some x) l c := by simpa using hcs
    have hlen : l ≤ zs.length := by rw [hz]; split <;> omega
    have : ∃ bs : List α, bs.length = l ∧ ∀ j (h : j < bs.length), f bs[j] = .int k (zs.getD j 0) := by
      have hk : ∀ m, m ≤ l → ∃ bs : List α, bs.length = m ∧ ∀ j (h : j < bs.length), f bs[j] = .int k (zs.getD j 0) := by
        intro m
        induction m with
        | zero => intro _; exact ⟨[], rfl, fun j h => absurd h (by simp)⟩
        | succ m ih =>
          intro hm
          obtain ⟨bs, hb, hp⟩ := ih (by omega)
          obtain ⟨a, ha⟩ := hf (zs.getD m 0) (hwz _ (by rw [List.getD_eq_getElem?_getD, List.getElem?_eq_getElem (by omega)]; exact List.getElem_mem _))
          refine ⟨bs ++ [a], by simp [hb], fun j hj => ?_⟩
          rw [List.getElem_append]
          split
          · exact hp j _
          · have : j = m := by simp at hj; omega
            subst this
            simpa using ha
      exact hk l (Nat.le_refl _)
    obtain ⟨bs, hb, hp⟩ := this
    refine ⟨some x, bs, c, by rw [hb]; exact hu, by omega, hm, fun j hj => ?_⟩
    have hc1 := hcell j (by omega)
    have hbk := cell_lt hc1
    rw [add_block] at hbk
    exact ⟨x, rfl, hbk, by rw [hc1, hp j hj]⟩
theorem rows_at {t e : TypeId} {fs : Array Field} {K : Nat} {v : Value} {d : DataW H} {p : List MemPlace} (ht : P.underlying t = some (.slice e)) (he : P.underlying e = some (.struct fs)) (hone : Go.Deep.oneCellFields P fs = true) (hC : P.cellsOf e = K) (hK : fs.size = K)
    (hv : Value.okWide P w r b0 t v) (h : DataW.Trod enc P w base spare held t v d p) :
    ∃ (A : Option Addr) (n c : Nat), v = .slice A n c ∧ n ≤ c ∧ c ≤ maxLen ∧ ∀ i, i < n → ∃ ad m, A = some ad ∧ ∀ j f, fs[j]? = some f → ∃ u y, w.cell? (ad.add (i * K + j)) = some u ∧ DataW.trod enc P w base spare held m f.type [u] = some y := by
  obtain ⟨a0, len, cap, rfl⟩ := okWide_slice ht hv
  obtain ⟨fuel, hf⟩ := h
  rcases Go.Deep.open_slice ht hf with ⟨hcs, _⟩ | ⟨a, len', cap', m, n', D, Pl, hcs, hb, hl, hm, hmm, hx, hrow⟩
  · simp [Value.cells] at hcs
    obtain ⟨rfl, rfl, rfl⟩ := hcs
    exact ⟨none, 0, 0, rfl, Nat.le_refl _, by simp [maxLen], fun i hi => absurd hi (by omega)⟩
  · simp [Value.cells] at hcs
    obtain ⟨rfl, rfl, rfl⟩ := hcs
    refine ⟨some a, len, cap, rfl, hl, hm, fun i hi => ?_⟩
    obtain ⟨cs', h1, h2⟩ := hrow i (by rw [hmm]; split <;> omega)
    obtain ⟨_, hlen, hcell⟩ := World.cells?_some h1
    obtain ⟨xs, n2, _, _, hl2, hlen2, hfs⟩ := DataW.trod_struct he h2
    refine ⟨a, n2, rfl, fun j f hj => ?_⟩
    obtain ⟨ho, h1c⟩ := Go.Deep.hone_of hone j f hj
    have hjk : j < fs.size := (Array.getElem?_eq_some_iff.1 hj).1
    have hjl : j < cs'.length := by omega
    have hfj := hfs j f hj
    have e1 : (cs'.drop f.offset).take (P.cellsOf f.type) = [cs'[j]] := by
      rw [ho, h1c, List.drop_eq_getElem_cons hjl]
      rfl
    rw [e1, List.getElem?_eq_getElem (by omega)] at hfj
    refine ⟨cs'[j], _, ?_, hfj⟩
    have := hcell j (by omega)
    rw [List.getElem?_eq_getElem hjl, add_add', hC] at this
    exact this
end
theorem choose_lst {α : Type} {p : Nat → α → Prop} : ∀ n : Nat, (∀ r, r < n → ∃ x, p r x) → ∃ l : List α, l.length = n ∧ ∀ r (h : r < l.length), p r l[r]
  | 0, _ => ⟨[], rfl, fun r h => absurd h (by simp)⟩
  | n + 1, h => by
    obtain ⟨l, hl, hp⟩ := choose_lst n fun r hr => h r (by omega)
    obtain ⟨x, hx⟩ := h n (by omega)
    refine ⟨l ++ [x], by simp [hl], fun r hr => ?_⟩
    rw [List.getElem_append]
    split
    · exact hp r _
    · have : r = n := by simp at hr; omega
      subst this
      simpa using hx
theorem num8 : ∀ z : Int, (Lit.int .u8 z).wf = true → ∃ a : BitVec 8, b8 a = .int .u8 z := fun z h => ⟨_, by unfold b8; rw [← wfu8 h]⟩
set_option maxRecDepth 100000
theorem add_far (a : Addr) (m j : Nat) : a.add (m + (j + 1)) = ⟨(a.add m).block, (a.add m).off + (j + 1), none⟩ := by
  rw [← add_add']
  rfl
/-- One of CodeBack's items. -/
structure Itm where
  op : Int
  u : BitVec 64
  i : BitVec 64
  ba : Option Addr
  bb : List (BitVec 8)
  bc : Nat
  wa : Option Addr
  ww : List (BitVec 64)
  wc : Nat
structure ItmAt (W : World) (B : Nat) (ad : Addr) (k : Nat) (x : Itm) : Prop where
  blk : ad.block < B
  op : W.cell? (ad.add (k * 5)) = some (.int .i64 x.op)
  u : W.cell? ⟨(ad.add (k * 5)).block, (ad.add (k * 5)).off + 1, none⟩ = some (.int .u64 (U64 x.u))
  i : W.cell? ⟨(ad.add (k * 5)).block, (ad.add (k * 5)).off + 2, none⟩ = some (.int .i64 (I64 x.i))
  b : W.cell? ⟨(ad.add (k * 5)).block, (ad.add (k * 5)).off + 3, none⟩ = some (.slice x.ba x.bb.length x.bc)
  w : W.cell? ⟨(ad.add (k * 5)).block, (ad.add (k * 5)).off + 4, none⟩ = some (.slice x.wa x.ww.length x.wc)
  bbc : x.bb.length ≤ x.bc
  wwc : x.ww.length ≤ x.wc
  br : Rd b8 W B x.ba x.bb
  wr : Rd (fun a => Value.int .u64 (U64 a)) W B x.wa x.ww
def Its (W : World) (B : Nat) (A : Option Addr) (l : List Itm) : Prop := ∀ k (h : k < l.length), ∃ ad, A = some ad ∧ ItmAt W B ad k l[k]
/-- One of MemPlays' acts. -/
structure Ac where
  op : Int
  at_ : Int
  fr : Int
  n : Int
  u : BitVec 64
  ba : Option Addr
  bb : List (BitVec 8)
  bc : Nat
structure AcAt (W : World) (B : Nat) (ad : Addr) (k : Nat) (x : Ac) : Prop where
  blk : ad.block < B
  op : W.cell? (ad.add (k * 6)) = some (.int .i64 x.op)
  at_ : W.cell? ⟨(ad.add (k * 6)).block, (ad.add (k * 6)).off + 1, none⟩ = some (.int .i64 x.at_)
  fr : W.cell? ⟨(ad.add (k * 6)).block, (ad.add (k * 6)).off + 2, none⟩ = some (.int .i64 x.fr)
  n : W.cell? ⟨(ad.add (k * 6)).block, (ad.add (k * 6)).off + 3, none⟩ = some (.int .i64 x.n)
  u : W.cell? ⟨(ad.add (k * 6)).block, (ad.add (k * 6)).off + 4, none⟩ = some (.int .u64 (U64 x.u))
  b : W.cell? ⟨(ad.add (k * 6)).block, (ad.add (k * 6)).off + 5, none⟩ = some (.slice x.ba x.bb.length x.bc)
  w0 : (Lit.int .i64 x.op).wf = true
  w1 : (Lit.int .i64 x.at_).wf = true
  w2 : (Lit.int .i64 x.fr).wf = true
  w3 : (Lit.int .i64 x.n).wf = true
  bbc : x.bb.length ≤ x.bc
  bcm : x.bc ≤ maxLen
  br : Rd b8 W B x.ba x.bb
def Acs (W : World) (B : Nat) (A : Option Addr) (l : List Ac) : Prop := ∀ k (h : k < l.length), ∃ ad, A = some ad ∧ AcAt W B ad k l[k]
theorem Acs.below {W W' : World} {B : Nat} {A : Option Addr} {l : List Ac} (h : Acs W B A l) (hb : Below B W W') : Acs W' B A l := fun k hk => by
  obtain ⟨ad, e, m⟩ := h k hk
  have hbk : (ad.add (k * 6)).block < B := by rw [add_block]; exact m.blk
  have c : ∀ j, W'.cell? ⟨(ad.add (k * 6)).block, (ad.add (k * 6)).off + j, none⟩ = W.cell? ⟨(ad.add (k * 6)).block, (ad.add (k * 6)).off + j, none⟩ := fun j => hb.cell (p := ⟨(ad.add (k * 6)).block, (ad.add (k * 6)).off + j, none⟩) hbk
  exact ⟨ad, e, m.blk, (hb.cell hbk).trans m.op, (c _).trans m.at_, (c _).trans m.fr, (c _).trans m.n, (c _).trans m.u, (c _).trans m.b, m.w0, m.w1, m.w2, m.w3, m.bbc, m.bcm, m.br.below hb⟩
end Go.Proofs.YtfodefgihicafaaDoor
/- Rows of headers; Apart; a space and the document's space, all apart. Conditions: lengths. -/
namespace Go.Proofs.YtfodefgihicafaaDoor
set_option linter.unusedVariables false
set_option linter.unusedSimpArgs false
open Go.ChangeShapes Go.WideShapes Go.ChangeAt Go.RowKit
set_option maxRecDepth 100000
structure HdR where
  p : Int
  b : Int
  m : Bool
  t : Int
structure HdAt (W : World) (B : Nat) (ad : Addr) (k : Nat) (x : HdR) : Prop where
  blk : ad.block < B
  p : W.cell? (ad.add (k * 4)) = some (.int .i64 x.p)
  b : W.cell? ⟨(ad.add (k * 4)).block, (ad.add (k * 4)).off + 1, none⟩ = some (.int .i64 x.b)
  m : W.cell? ⟨(ad.add (k * 4)).block, (ad.add (k * 4)).off + 2, none⟩ = some (.bool x.m)
  t : W.cell? ⟨(ad.add (k * 4)).block, (ad.add (k * 4)).off + 3, none⟩ = some (.int .i64 x.t)
def Hds (W : World) (B : Nat) (A : Option Addr) (l : List HdR) : Prop := ∀ k (h : k < l.length), ∃ ad, A = some ad ∧ HdAt W B ad k l[k]
theorem HdAt.below {W W' : World} {B k : Nat} {ad : Addr} {x : HdR} (m : HdAt W B ad k x) (hb : Below B W W') : HdAt W' B ad k x := by
  have hbk : (ad.add (k * 4)).block < B := by rw [add_block]; exact m.blk
  have c : ∀ j, W'.cell? ⟨(ad.add (k * 4)).block, (ad.add (k * 4)).off + j, none⟩ = W.cell? ⟨(ad.add (k * 4)).block, (ad.add (k * 4)).off + j, none⟩ := fun j => hb.cell (p := ⟨(ad.add (k * 4)).block, (ad.add (k * 4)).off + j, none⟩) hbk
  exact ⟨m.blk, (hb.cell hbk).trans m.p, (c _).trans m.b, (c _).trans m.m, (c _).trans m.t⟩
theorem Hds.below {W W' : World} {B : Nat} {A : Option Addr} {l : List HdR} (h : Hds W B A l) (hb : Below B W W') : Hds W' B A l := fun k hk => by
  obtain ⟨ad, e, m⟩ := h k hk
  exact ⟨ad, e, m.below hb⟩
theorem Ow.heap {α : Type} {f : α → Value} {E : TypeId} {w w' : World} {base : Nat} {v : Value} {xs : List α} (h : Ow f E w base v xs) (hk : ∀ q, v.ownBlock = some q → w'.heap[q]? = w.heap[q]?) : Ow f E w' base v xs := by
  refine ⟨h.1, ?_⟩
  rcases h.2 with hn | ⟨g, cap, cur, rfl, hb, hgg, rest⟩
  · exact .inl hn
  · exact .inr ⟨g, cap, cur, rfl, hb, (hk g rfl).trans hgg, rest⟩
/-- A space all of whose blocks are S or above stands when two blocks below S change. -/
theorem SpAt.two {W W' : World} {S s g s1 : Nat} {v : Value} {ws : List (BitVec 64)} {b t e : Nat} {row : Option Nat} (p : SpAt W S s g v ws b t e) (h : Two W W' s1 row) (h1 : s1 < S) (h2 : ∀ q, row = some q → q < S) : SpAt W' S s g v ws b t e := by
  have k : ∀ q, S ≤ q → q < W.heap.size → W'.heap[q]? = W.heap[q]? := fun q hq hl => h.block q hl (by omega) (fun e => by have := h2 q e.symm; omega)
  refine ⟨⟨(k g p.mem.ge p.mem.blk.lt).trans p.mem.blk, p.mem.ge, p.mem.row.heap (fun q hq => k q (p.mem.row.lt q hq).1 (p.mem.row.lt q hq).2), p.mem.ne⟩, (k s p.hs p.blk.lt).trans p.blk, p.sg, p.sv, p.hs, p.bt, p.te, p.el⟩
def TwV (S : Nat) (ws : List (BitVec 64)) (u : Value) (W : World) : Prop := ∃ g v, u = .pointer (some ⟨g, 0, none⟩) ∧ MemAt W S g v ws
def TaV (S : Nat) (ws : List (BitVec 64)) (b t e : Nat) (u : Value) (W : World) : Prop := ∃ g v, u = .agg #[.pointer (some ⟨g, 0, none⟩), .int .i64 b, .int .i64 t, .int .i64 e] ∧ MemAt W S g v ws
def TsV (S : Nat) (ws : List (BitVec 64)) (b t e : Nat) (u : Value) (W : World) : Prop := ∃ s g v, u = .pointer (some ⟨s, 0, none⟩) ∧ SpAt W S s g v ws b t e
theorem TwV.mono {S : Nat} {ws : List (BitVec 64)} {u : Value} {a b : World} (h : TwV S ws u a) (k : Gw a b) : TwV S ws u b := by
  obtain ⟨g, v, e, m⟩ := h
  exact ⟨g, v, e, m.below k⟩
theorem TaV.mono {S b t e : Nat} {ws : List (BitVec 64)} {u : Value} {a c : World} (h : TaV S ws b t e u a) (k : Gw a c) : TaV S ws b t e u c := by
  obtain ⟨g, v, e, m⟩ := h
  exact ⟨g, v, e, m.below k⟩
theorem TsV.mono {S b t e : Nat} {ws : List (BitVec 64)} {u : Value} {a c : World} (h : TsV S ws b t e u a) (k : Gw a c) : TsV S ws b t e u c := by
  obtain ⟨s, g, v, e, m⟩ := h
  exact ⟨s, g, v, e, m.below k⟩
theorem TaV.box {S b t e : Nat} {ws : List (BitVec 64)} {W : World} {g : Nat} {v : Value} (m : MemAt W S g v ws) (hbt : b ≤ t) (hte : t ≤ e) (hel : e ≤ ws.length) : TsV S ws b t e (.pointer (some ⟨W.heap.size, 0, none⟩)) (W.alloc (.cells #[.pointer (some ⟨g, 0, none⟩), .int .i64 b, .int .i64 t, .int .i64 e] 65)) := by
  have hb := Gw.alloc W (.cells #[.pointer (some ⟨g, 0, none⟩), .int .i64 b, .int .i64 t, .int .i64 e] 65)
  refine ⟨W.heap.size, g, v, rfl, ⟨m.below hb, Bk.new W _ _, ?_, fun e => ?_, m.le, hbt, hte, hel⟩⟩
  · have := m.blk.lt; omega
  · have := (m.row.lt _ e).2; omega
set_option maxHeartbeats 400000
end Go.Proofs.YtfodefgihicafaaDoor
/- A space and the document's space, step by step. Conditions: lengths. -/
namespace Go.Proofs.YtfodefgihicafaaDoor
set_option linter.unusedVariables false
set_option linter.unusedSimpArgs false
open Go.RowKit
set_option maxRecDepth 100000
/-- Block s holds a space of ws up to t, block R the document's of rs up to t2; all apart. -/
structure SpG (w0 W : World) (s g R : Nat) (v : Value) (A : Option Addr) (c : Nat) (ws rs : List (BitVec 64)) (b t t2 e : Nat) : Prop where
  sp : SpAt W w0.heap.size s g v ws b t e
  blk : Bk W R 29 #[.slice A rs.length c, .int .i64 b, .int .i64 t2, .int .i64 e]
  row : Ow u64v 68 W w0.heap.size (.slice A rs.length c) rs
  rns : R ≠ s
  rg : R ≠ g
  rv : v.ownBlock ≠ some R
  rB : w0.heap.size ≤ R
  q : ∀ q, (Value.slice A rs.length c).ownBlock = some q → q ≠ s ∧ v.ownBlock ≠ some q ∧ q ≠ R
  old : Below w0.heap.size w0 W
section
variable {w0 W W' : World} {s g R : Nat} {v : Value} {A A' : Option Addr} {c c' : Nat} {ws rs ws' rs' : List (BitVec 64)} {b t t2 t' e : Nat}
theorem SpG.ref (p : SpG w0 W s g R v A c ws rs b t t2 e) : RefAt W R A c rs b t2 e := ⟨p.blk, p.row.rd⟩
theorem SpG.below (p : SpG w0 W s g R v A c ws rs b t t2 e) (hb : Below W.heap.size W W') : SpG w0 W' s g R v A c ws rs b t t2 e :=
  ⟨p.sp.below hb, p.blk.below hb p.blk.lt, p.row.below hb, p.rns, p.rg, p.rv, p.rB, p.q, p.old.trans (hb.mono p.sp.mem.le)⟩
theorem SpG.spTo (p : SpG w0 W s g R v A c ws rs b t t2 e) (h : SpAt W' w0.heap.size s g v ws' b t' e) (hb : Below w0.heap.size W W') (h2 : Two W W' s v.ownBlock) : SpG w0 W' s g R v A c ws' rs b t' t2 e :=
  ⟨h, (h2.block R p.blk.lt p.rns (fun e => p.rv e.symm)).trans p.blk, p.row.heap (fun q hq => h2.block q (p.row.lt q hq).2 (p.q q hq).1 (fun e => (p.q q hq).2.1 e.symm)), p.rns, p.rg, p.rv, p.rB, p.q, p.old.trans hb⟩
theorem SpG.rowTo (p : SpG w0 W s g R v A c ws rs b t t2 e) (h : Bk W' R 29 #[.slice A' rs.length c', .int .i64 b, .int .i64 t', .int .i64 e]) (hl : rs'.length = rs.length) (ho : Ow u64v 68 W' W.heap.size (.slice A' rs.length c') rs') (hg : W.grownBy W' (some R)) : SpG w0 W' s g R v A' c' ws rs' b t t' e := by
  have hm := p.sp.mem.grown hg (fun e => p.rg (by injection e with e; exact e.symm)) (.inr p.rv)
  have hs := p.sp.blk.lt
  refine ⟨⟨hm, (hg.block s hs (fun e => p.rns (by injection e with e; exact e.symm))).trans p.sp.blk, p.sp.sg, p.sp.sv, p.sp.hs, p.sp.bt, p.sp.te, p.sp.el⟩, by rw [hl]; exact h, by rw [hl]; exact ho.mono p.sp.mem.le, p.rns, p.rg, p.rv, p.rB, fun q hq => ?_, p.old.trans (grown_below hg p.rB p.sp.mem.le)⟩
  rw [hl] at hq
  have hq2 := (ho.lt q hq).1
  have hr := p.blk.lt
  exact ⟨by omega, fun e => by have := (p.sp.mem.row.lt q e).2; omega, by omega⟩
end
set_option maxHeartbeats 400000
end Go.Proofs.YtfodefgihicafaaDoor
/- Calls on objects, both sides beside each other: each gives the same answer, and afterwards both hold the same words. Conditions: lengths. -/
namespace Go.Proofs.YtfodefgihicafaaDoor
set_option linter.unusedVariables false
set_option linter.unusedSimpArgs false
open Go.RowKit Go.Maps
set_option maxHeartbeats 1000000
set_option maxRecDepth 100000
theorem Rd.lt0 {α : Type} {f : α → Value} {w : World} {B : Nat} {A : Option Addr} {xs : List α} (h : Rd f w B A xs) (h0 : 0 < xs.length) : ∀ x, A = some x → x.block < B := fun x e => by
  obtain ⟨ad, e2, hb, _⟩ := h 0 h0
  rw [e] at e2
  injection e2 with e2
  subst e2
  exact hb
/-- All blocks but a space's own and the document's stay. -/
structure Kb (s R : Nat) (v : Value) (W W' : World) : Prop where
  size : W.heap.size ≤ W'.heap.size
  block : ∀ k, k < W.heap.size → k ≠ s → v.ownBlock ≠ some k → k ≠ R → W'.heap[k]? = W.heap[k]?
theorem Kb.two {s R : Nat} {v : Value} {W W' : World} (h : Two W W' s v.ownBlock) : Kb s R v W W' := ⟨h.size, fun k h1 h2 h3 _ => h.block k h1 h2 (fun e => h3 e.symm)⟩
theorem Kb.grown {s R : Nat} {v : Value} {W W' : World} (h : W.grownBy W' (some R)) : Kb s R v W W' := ⟨h.size, fun k h1 _ _ h4 => h.block k h1 (fun e => h4 (by injection e))⟩
theorem Kb.below {s R : Nat} {v : Value} {W W' : World} (h : Below W.heap.size W W') : Kb s R v W W' := ⟨h.size, fun k h1 _ _ _ => h.block k h1⟩
section
variable (w0 : World) (s g R : Nat) (v : Value) (ws : List (BitVec 64)) (b t e : Nat)
theorem g_ptr (hte : t ≤ e) (hel : e ≤ ws.length) (hl : ws.length ≤ 8192) (a i : Int) : ∃ x f : Int,
    (∀ W A c, SpG w0 W s g R v A c ws ws b t t e → Calls Tryd.prog 9 #[.pointer (some ⟨s, 0, none⟩), .int .i64 a, .int .i64 i] W (RetP (.tuple #[.int .i64 x, .int .i64 f]) W)) ∧
    (∀ W A c, SpG w0 W s g R v A c ws ws b t t e → Calls Tryd.prog 10 #[.pointer (some ⟨R, 0, none⟩), .int .i64 a, .int .i64 i] W (RetP (.tuple #[.int .i64 x, .int .i64 f]) W)) := by
  by_cases h : lkE ws b t a = 0
  · obtain ⟨k, rfl, h1, h2, hg⟩ := lkE_zero h
    by_cases hi : i < 0 ∨ (0 ≤ i ∧ (P0 (ws.getD k 0#64) : Int) ≤ i)
    · exact ⟨0, 1, fun W A c p => Ptr_no W _ s g v ws b t e p.sp (by omega) k i h1 h2 hg hi, fun W A c p => rPtr_no W R c A ws b t e p.ref (by omega) (by omega) k i h1 h2 hg hi⟩
    · obtain ⟨j, rfl⟩ : ∃ j : Nat, i = (j : Int) := ⟨i.toNat, by omega⟩
      exact ⟨_, _, fun W A c p => Ptr_c W _ s g v ws b t e p.sp hl k j h1 h2 hg (by omega), fun W A c p => rPtr_c W R c A ws b t e p.ref (by omega) hl k j h1 h2 hg (by omega)⟩
  · exact ⟨0, _, fun W A c p => Ptr_err W _ s g v ws b t e p.sp (by omega) a i h, fun W A c p => rPtr_err W R c A ws b t e p.ref (by omega) (by omega) a i h⟩
theorem g_setptr (hte : t ≤ e) (hel : e ≤ ws.length) (hl : ws.length ≤ 8192) (a i z : Int) : ∃ (f : Int) (ws' : List (BitVec 64)), ws'.length = ws.length ∧
    (∀ W A c, SpG w0 W s g R v A c ws ws b t t e → Calls Tryd.prog 11 #[.pointer (some ⟨s, 0, none⟩), .int .i64 a, .int .i64 i, .int .i64 z] W fun r W' => r = .returned (.int .i64 f) ∧ SpG w0 W' s g R v A c ws' ws b t t e ∧ Kb s R v W W') ∧
    (∀ W A c, SpG w0 W s g R v A c ws' ws b t t e → Calls Tryd.prog 12 #[.pointer (some ⟨R, 0, none⟩), .int .i64 a, .int .i64 i, .int .i64 z] W fun r W' => r = .returned (.int .i64 f) ∧ ∃ A' c', SpG w0 W' s g R v A' c' ws' ws' b t t e ∧ Kb s R v W W') := by
  by_cases h : lkE ws b t a = 0
  · obtain ⟨k, rfl, h1, h2, hg⟩ := lkE_zero h
    by_cases hi : i < 0 ∨ (0 ≤ i ∧ (P0 (ws.getD k 0#64) : Int) ≤ i)
    · exact ⟨1, ws, rfl, fun W A c p => (setptr_no W _ s g v ws b t e p.sp (by omega) k i z h1 h2 hg hi).mono fun r W' q => ⟨q.1, p.below q.2, .below q.2⟩, fun W A c p => (rSet_no W R c A ws b t e p.ref (by omega) (by omega) k i z h1 h2 hg hi).mono fun r W' q => ⟨q.1, A, c, p.below q.2, .below q.2⟩⟩
    · obtain ⟨j, rfl⟩ : ∃ j : Nat, i = (j : Int) := ⟨i.toNat, by omega⟩
      have hj : j < P0 (ws.getD k 0#64) := by omega
      by_cases hz : z = -1
      · subst hz
        refine ⟨0, ws.set (k + 1 + j) 0#64, List.length_set, fun W A c p => (setptr_nil W _ s g v ws b t e p.sp (by omega) k j h1 h2 hg hj).mono fun r W' q => ⟨q.1, p.spTo q.2.1 q.2.2.2 q.2.2.1, .two q.2.2.1⟩, fun W A c p => (rSet_ok W R c A ws b t e p.ref (by omega) hl k j h1 h2 hg hj 0 (.inl rfl) (-1) rfl).mono fun r W' q => ?_⟩
        obtain ⟨q1, A', c', q2, q3, q4⟩ := q
        exact ⟨q1, A', c', p.rowTo q2 List.length_set q3 q4, .grown q4⟩
      · cases hin : insB b t z with
        | false => exact ⟨1, ws, rfl, fun W A c p => (setptr_bad W _ s g v ws b t e p.sp (by omega) k j z h1 h2 hg hj hz hin).mono fun r W' q => ⟨q.1, p.below q.2, .below q.2⟩, fun W A c p => (rSet_bad W R c A ws b t e p.ref (by omega) (by omega) k j z h1 h2 hg hj hz hin).mono fun r W' q => ⟨q.1, A, c, p.below q.2, .below q.2⟩⟩
        | true =>
          have hin' : (b : Int) ≤ z ∧ z < (t : Int) := by unfold insB at hin; simpa using hin
          obtain ⟨m, rfl⟩ : ∃ m : Nat, z = (m : Int) := ⟨z.toNat, by omega⟩
          refine ⟨0, ws.set (k + 1 + j) (BitVec.ofNat 64 (m + 1)), List.length_set, fun W A c p => (setptr_to W _ s g v ws b t e p.sp (by omega) k j m h1 h2 hg hj (by omega) (by omega)).mono fun r W' q => ⟨q.1, p.spTo q.2.1 q.2.2.2 q.2.2.1, .two q.2.2.1⟩, fun W A c p => (rSet_ok W R c A ws b t e p.ref (by omega) hl k j h1 h2 hg hj (m + 1) (.inr ⟨by omega, by omega⟩) (m : Int) (by omega)).mono fun r W' q => ?_⟩
          obtain ⟨q1, A', c', q2, q3, q4⟩ := q
          exact ⟨q1, A', c', p.rowTo q2 List.length_set q3 q4, .grown q4⟩
  · exact ⟨_, ws, rfl, fun W A c p => (setptr_err W _ s g v ws b t e p.sp (by omega) a i z h).mono fun r W' q => ⟨q.1, p.below q.2, .below q.2⟩, fun W A c p => (rSet_err W R c A ws b t e p.ref (by omega) (by omega) a i z h).mono fun r W' q => ⟨q.1, A, c, p.below q.2, .below q.2⟩⟩
theorem none_ret {w w' : World} {f : Int} {r : Ending} (h : RetP (.tuple #[.slice none 0 0, .int .i64 f]) w r w') : MkEP b8 5 [] f w r w' := by
  obtain ⟨rfl, hb⟩ := h
  exact MkEP.of (Ow.nil_ _ _ _ _) hb
theorem g_read (hte : t ≤ e) (hel : e ≤ ws.length) (hl : ws.length ≤ 8192) (a i n : Int) : ∃ (f : Int) (xs : List (BitVec 8)), xs.length ≤ 100000 ∧
    (∀ W A c, SpG w0 W s g R v A c ws ws b t t e → Calls Tryd.prog 13 #[.pointer (some ⟨s, 0, none⟩), .int .i64 a, .int .i64 i, .int .i64 n] W (MkEP b8 5 xs f W)) ∧
    (∀ W A c, SpG w0 W s g R v A c ws ws b t t e → Calls Tryd.prog 14 #[.pointer (some ⟨R, 0, none⟩), .int .i64 a, .int .i64 i, .int .i64 n] W (MkEP b8 5 xs f W)) := by
  by_cases h : lkE ws b t a = 0
  · obtain ⟨k, rfl, h1, h2, hg⟩ := lkE_zero h
    by_cases hi : noD (B0 (ws.getD k 0#64)) i n
    · exact ⟨1, [], by simp, fun W A c p => (read_no W _ s g v ws b t e p.sp (by omega) k i n h1 h2 hg hi).mono fun r W' q => none_ret q, fun W A c p => (rRead_no W R c A ws b t e p.ref (by omega) (by omega) k i n h1 h2 hg hi).mono fun r W' q => none_ret q⟩
    · unfold noD at hi
      obtain ⟨j, rfl⟩ : ∃ j : Nat, i = (j : Int) := ⟨i.toNat, by omega⟩
      obtain ⟨m, rfl⟩ : ∃ j : Nat, n = (j : Int) := ⟨n.toNat, by omega⟩
      have hb := (head_of hg).2.2.1
      exact ⟨0, bytesM ws (8 * (k + 1 + P0 (ws.getD k 0#64)) + j) m, by unfold bytesM; simp; omega, fun W A c p => read_ok W _ s g v ws b t e p.sp (by omega) k j m h1 h2 hg (by omega), fun W A c p => rRead_ok W R c A ws b t e p.ref (by omega) hl k j m h1 h2 hg (by omega)⟩
  · exact ⟨_, [], by simp, fun W A c p => (read_err W _ s g v ws b t e p.sp (by omega) a i n h).mono fun r W' q => none_ret q, fun W A c p => (rRead_err W R c A ws b t e p.ref (by omega) (by omega) a i n h).mono fun r W' q => none_ret q⟩
theorem g_write (hte : t ≤ e) (hel : e ≤ ws.length) (hl : ws.length ≤ 8192) (a i : Int) (A2 : Option Addr) (c2 : Nat) (bs : List (BitVec 8)) (hr : Rd b8 w0 w0.heap.size A2 bs) : ∃ (f : Int) (ws' : List (BitVec 64)), ws'.length = ws.length ∧
    (∀ W A c, SpG w0 W s g R v A c ws ws b t t e → Calls Tryd.prog 15 #[.pointer (some ⟨s, 0, none⟩), .int .i64 a, .int .i64 i, .slice A2 bs.length c2] W fun r W' => r = .returned (.int .i64 f) ∧ SpG w0 W' s g R v A c ws' ws b t t e ∧ Kb s R v W W') ∧
    (∀ W A c, SpG w0 W s g R v A c ws' ws b t t e → Calls Tryd.prog 16 #[.pointer (some ⟨R, 0, none⟩), .int .i64 a, .int .i64 i, .slice A2 bs.length c2] W fun r W' => r = .returned (.int .i64 f) ∧ ∃ A' c', SpG w0 W' s g R v A' c' ws' ws' b t t e ∧ Kb s R v W W') := by
  have hrW : ∀ W A c xs ys, SpG w0 W s g R v A c xs ys b t t e → Rd b8 W W.heap.size A2 bs := fun W A c xs ys p => (hr.below p.old).more p.sp.mem.le
  by_cases h : lkE ws b t a = 0
  · obtain ⟨k, rfl, h1, h2, hg⟩ := lkE_zero h
    by_cases hi : noD (B0 (ws.getD k 0#64)) i (bs.length : Int)
    · exact ⟨1, ws, rfl, fun W A c p => (write_no W _ s g v ws b t e p.sp (by omega) k i A2 bs.length c2 h1 h2 hg hi).mono fun r W' q => ⟨q.1, p.below q.2, .below q.2⟩, fun W A c p => (rWrite_no W R c A ws b t e p.ref (by omega) (by omega) k i A2 bs.length c2 h1 h2 hg hi).mono fun r W' q => ⟨q.1, A, c, p.below q.2, .below q.2⟩⟩
    · unfold noD at hi
      obtain ⟨j, rfl⟩ : ∃ j : Nat, i = (j : Int) := ⟨i.toNat, by omega⟩
      refine ⟨0, putK ws (8 * (k + 1 + P0 (ws.getD k 0#64)) + j) bs bs.length, putK_len _ _ _ _, fun W A c p => (write_ok W _ s g v ws b t e p.sp (by omega) k j A2 c2 bs h1 h2 hg (by omega) (hrW _ _ _ _ _ p) (fun h0 x ex => fun ev => ?_)).mono fun r W' q => ⟨q.1, p.spTo q.2.1 q.2.2.2 q.2.2.1, .two q.2.2.1⟩, fun W A c p => (rWrite_ok W R c A ws b t e p.ref (by omega) hl k j A2 c2 bs h1 h2 hg (by omega) (hrW _ _ _ _ _ p)).mono fun r W' q => ?_⟩
      · have q1 := hr.lt0 h0 x ex
        have q2 := (p.sp.mem.row.lt _ ev.symm).1
        omega
      · obtain ⟨q1, A', c', q2, q3, q4⟩ := q
        exact ⟨q1, A', c', p.rowTo q2 (putK_len _ _ _ _) q3 q4, .grown q4⟩
  · exact ⟨_, ws, rfl, fun W A c p => (write_err W _ s g v ws b t e p.sp (by omega) a i A2 bs.length c2 h).mono fun r W' q => ⟨q.1, p.below q.2, .below q.2⟩, fun W A c p => (rWrite_err W R c A ws b t e p.ref (by omega) (by omega) a i A2 bs.length c2 h).mono fun r W' q => ⟨q.1, A, c, p.below q.2, .below q.2⟩⟩
end
end Go.Proofs.YtfodefgihicafaaDoor
/- ObjectPlays: an act's own block beside the two spaces; each call from state to state. Conditions: lengths; the two tables. -/
namespace Go.Proofs.YtfodefgihicafaaDoor
set_option linter.unusedVariables false
set_option linter.unusedSimpArgs false
open Go.RowKit Go.Maps
set_option maxHeartbeats 1000000
set_option maxRecDepth 100000
structure PlO (w0 W : World) (s g R H : Nat) (v : Value) (A : Option Addr) (c : Nat) (ws rs : List (BitVec 64)) (b t e : Nat) (cs : Array Value) : Prop where
  sp : SpG w0 W s g R v A c ws rs b t t e
  act : Bk W H 32 cs
  hs : H ≠ s
  hv : v.ownBlock ≠ some H
  hR : H ≠ R
section
variable {w0 W W' : World} {s g R H : Nat} {v : Value} {A A' : Option Addr} {c c' : Nat} {ws rs ws' rs' : List (BitVec 64)} {b t e : Nat} {cs : Array Value}
theorem PlO.below (p : PlO w0 W s g R H v A c ws rs b t e cs) (hb : Below W.heap.size W W') : PlO w0 W' s g R H v A c ws rs b t e cs := ⟨p.sp.below hb, p.act.below hb p.act.lt, p.hs, p.hv, p.hR⟩
theorem PlO.to (p : PlO w0 W s g R H v A c ws rs b t e cs) (k : Kb s R v W W') (q : SpG w0 W' s g R v A' c' ws' rs' b t t e) : PlO w0 W' s g R H v A' c' ws' rs' b t e cs := ⟨q, (k.block H p.act.lt p.hs p.hv p.hR).trans p.act, p.hs, p.hv, p.hR⟩
theorem PlO.enter (p : SpG w0 W s g R v A c ws rs b t t e) (cs : Array Value) : PlO w0 (W.alloc (.cells cs 32)) s g R W.heap.size v A c ws rs b t e cs :=
  ⟨p.below (Gw.alloc W _), Bk.new W _ _, by have := p.sp.blk.lt; omega, fun ev => by have := (p.sp.mem.row.lt _ ev).2; omega, by have := p.blk.lt; omega⟩
theorem PlO.five {op at_ i n : Int} {ba : Option Addr} {nb bc : Nat} (p : PlO w0 W s g R H v A c ws rs b t e #[.int .i64 op, .int .i64 at_, .int .i64 i, .int .i64 n, .slice ba nb bc]) :
    W.cell? ⟨H, 0, none⟩ = some (.int .i64 op) ∧ W.cell? ⟨H, 1, none⟩ = some (.int .i64 at_) ∧ W.cell? ⟨H, 2, none⟩ = some (.int .i64 i) ∧ W.cell? ⟨H, 3, none⟩ = some (.int .i64 n) ∧ W.cell? ⟨H, 4, none⟩ = some (.slice ba nb bc) ∧ H < W.heap.size :=
  ⟨p.act.cell 0, p.act.cell 1, p.act.cell 2, p.act.cell 3, p.act.cell 4, p.act.lt⟩
end
section
variable (w0 : World) (s g R H : Nat) (v : Value) (ws : List (BitVec 64)) (b t e : Nat) (cs : Array Value) (hte : t ≤ e) (hel : e ≤ ws.length) (hl : ws.length ≤ 8192)
include hte hel hl
theorem pl_ptr (a i : Int) : ∃ x f : Int, ∀ W A c, PlO w0 W s g R H v A c ws ws b t e cs →
    (Calls Tryd.prog 9 #[.pointer (some ⟨s, 0, none⟩), .int .i64 a, .int .i64 i] W fun r W' => r = .returned (.tuple #[.int .i64 x, .int .i64 f]) ∧ PlO w0 W' s g R H v A c ws ws b t e cs) ∧
    (Calls Tryd.prog 10 #[.pointer (some ⟨R, 0, none⟩), .int .i64 a, .int .i64 i] W fun r W' => r = .returned (.tuple #[.int .i64 x, .int .i64 f]) ∧ PlO w0 W' s g R H v A c ws ws b t e cs) := by
  obtain ⟨x, f, k1, k2⟩ := g_ptr w0 s g R v ws b t e hte hel hl a i
  exact ⟨x, f, fun W A c p => ⟨(k1 W A c p.sp).mono fun r W' q => ⟨q.1, p.below q.2⟩, (k2 W A c p.sp).mono fun r W' q => ⟨q.1, p.below q.2⟩⟩⟩
theorem pl_set (a i z : Int) : ∃ (f : Int) (ws' : List (BitVec 64)), ws'.length = ws.length ∧
    (∀ W A c, PlO w0 W s g R H v A c ws ws b t e cs → Calls Tryd.prog 11 #[.pointer (some ⟨s, 0, none⟩), .int .i64 a, .int .i64 i, .int .i64 z] W fun r W' => r = .returned (.int .i64 f) ∧ PlO w0 W' s g R H v A c ws' ws b t e cs) ∧
    (∀ W A c, PlO w0 W s g R H v A c ws' ws b t e cs → Calls Tryd.prog 12 #[.pointer (some ⟨R, 0, none⟩), .int .i64 a, .int .i64 i, .int .i64 z] W fun r W' => r = .returned (.int .i64 f) ∧ ∃ A' c', PlO w0 W' s g R H v A' c' ws' ws' b t e cs) := by
  obtain ⟨f, ws', hw, k1, k2⟩ := g_setptr w0 s g R v ws b t e hte hel hl a i z
  refine ⟨f, ws', hw, fun W A c p => (k1 W A c p.sp).mono fun r W' q => ⟨q.1, p.to q.2.2 q.2.1⟩, fun W A c p => (k2 W A c p.sp).mono fun r W' q => ?_⟩
  obtain ⟨q1, A', c', q2, q3⟩ := q
  exact ⟨q1, A', c', p.to q3 q2⟩
theorem pl_read (a i n : Int) : ∃ (f : Int) (xs : List (BitVec 8)), ∀ W A c, PlO w0 W s g R H v A c ws ws b t e cs →
    (Calls Tryd.prog 13 #[.pointer (some ⟨s, 0, none⟩), .int .i64 a, .int .i64 i, .int .i64 n] W fun r W' => ∃ A' c', r = .returned (.tuple #[.slice A' xs.length c', .int .i64 f]) ∧ Rd b8 W' W'.heap.size A' xs ∧ PlO w0 W' s g R H v A c ws ws b t e cs) ∧
    (Calls Tryd.prog 14 #[.pointer (some ⟨R, 0, none⟩), .int .i64 a, .int .i64 i, .int .i64 n] W fun r W' => ∃ A' c', r = .returned (.tuple #[.slice A' xs.length c', .int .i64 f]) ∧ Rd b8 W' W'.heap.size A' xs ∧ Below W.heap.size W W' ∧ PlO w0 W' s g R H v A c ws ws b t e cs) := by
  obtain ⟨f, xs, _, k1, k2⟩ := g_read w0 s g R v ws b t e hte hel hl a i n
  refine ⟨f, xs, fun W A c p => ⟨(k1 W A c p.sp).mono fun r W' q => ?_, (k2 W A c p.sp).mono fun r W' q => ?_⟩⟩
  · obtain ⟨A', c', q1, q2, q3, q4⟩ := q
    exact ⟨A', c', q1, q3.rd, p.below q4⟩
  · obtain ⟨A', c', q1, q2, q3, q4⟩ := q
    exact ⟨A', c', q1, q3.rd, q4, p.below q4⟩
theorem pl_write (a i : Int) (A2 : Option Addr) (c2 : Nat) (bs : List (BitVec 8)) (hr : Rd b8 w0 w0.heap.size A2 bs) : ∃ (f : Int) (ws' : List (BitVec 64)), ws'.length = ws.length ∧
    (∀ W A c, PlO w0 W s g R H v A c ws ws b t e cs → Calls Tryd.prog 15 #[.pointer (some ⟨s, 0, none⟩), .int .i64 a, .int .i64 i, .slice A2 bs.length c2] W fun r W' => r = .returned (.int .i64 f) ∧ PlO w0 W' s g R H v A c ws' ws b t e cs) ∧
    (∀ W A c, PlO w0 W s g R H v A c ws' ws b t e cs → Calls Tryd.prog 16 #[.pointer (some ⟨R, 0, none⟩), .int .i64 a, .int .i64 i, .slice A2 bs.length c2] W fun r W' => r = .returned (.int .i64 f) ∧ ∃ A' c', PlO w0 W' s g R H v A' c' ws' ws' b t e cs) := by
  obtain ⟨f, ws', hw, k1, k2⟩ := g_write w0 s g R v ws b t e hte hel hl a i A2 c2 bs hr
  refine ⟨f, ws', hw, fun W A c p => (k1 W A c p.sp).mono fun r W' q => ⟨q.1, p.to q.2.2 q.2.1⟩, fun W A c p => (k2 W A c p.sp).mono fun r W' q => ?_⟩
  obtain ⟨q1, A', c', q2, q3⟩ := q
  exact ⟨q1, A', c', p.to q3 q2⟩
end
end Go.Proofs.YtfodefgihicafaaDoor
/- loamlaw16.To: words as a space, or none. Conditions: lengths. -/
namespace Go.Proofs.YtfodefgihicafaaDoor
set_option linter.unusedVariables false
set_option linter.unusedSimpArgs false
open Go.RowKit
set_option maxHeartbeats 1000000
set_option maxRecDepth 100000
/-- Is there no such space? -/
def toN (ws : List (BitVec 64)) (b t e : Int) : Prop := (b < 0 ∨ (¬ b < 0 ∧ t < b) ∨ (¬ b < 0 ∧ ¬ t < b ∧ e < t) ∨ (¬ b < 0 ∧ ¬ t < b ∧ ¬ e < t ∧ (ws.length : Int) < e))
theorem to_out (w : World) (A : Option Addr) (ws : List (BitVec 64)) (c : Nat) (hr : Rd u64v w w.heap.size A ws) (hl : ws.length ≤ 8192) (b t e : Int) (ho : toN ws b t e) : Calls Tryd.prog 8 #[.slice A ws.length c, .int .i64 b, .int .i64 t, .int .i64 e] w (RetP (.pointer none) w) := by
  have HMem := Lib.hid (mem15_c w A c ws hr hl)
  have HOf := Lib.hid (fun W B g v (h : MemAt W B g v ws) => sof_out W (.pointer (some ⟨g, 0, none⟩)) b t e (bare_out W B g v ws b t e h ho))
  obtain ⟨N, hN⟩ : ∃ N, N = ws.length := ⟨_, rfl⟩
  rw [← hN] at HMem ⊢
  clear hr hl hN ho
  go_enter Tryd.func8, Tryd.ntmps8
  go_wp2_with fail
  refine Calls.mono HMem.out ?_
  rintro r w2 ⟨g, v, rfl, h2, b2⟩
  have HM2 := Lib.hid (HOf.out w2 _ g v h2)
  have HB2 := Lib.hid b2
  clear h2 b2
  go_wp2_with fail
  refine Calls.mono HM2.out ?_
  rintro r w3 ⟨rfl, rfl⟩
  go_wp2_with fail
  go_ret
  exact ⟨rfl, HB2.out⟩
theorem to_none (w : World) (A : Option Addr) (ws : List (BitVec 64)) (c : Nat) (hr : Rd u64v w w.heap.size A ws) (hl : ws.length ≤ 8192) (b t e : Nat) (hbt : b ≤ t) (hte : t ≤ e) (hel : e ≤ ws.length) (ho : objF ws t (t + 1) b = none) : Calls Tryd.prog 8 #[.slice A ws.length c, .int .i64 b, .int .i64 t, .int .i64 e] w (RetP (.pointer none) w) := by
  have HMem := Lib.hid (mem15_c w A c ws hr hl)
  have HOf := Lib.hid (fun W B g v (h : MemAt W B g v ws) => sof_none W B g v ws b t e h hbt hte hel (by omega) ho)
  obtain ⟨N, hN⟩ : ∃ N, N = ws.length := ⟨_, rfl⟩
  rw [← hN] at HMem ⊢
  clear hr hl hN ho hbt hte hel
  go_enter Tryd.func8, Tryd.ntmps8
  go_wp2_with fail
  refine Calls.mono HMem.out ?_
  rintro r w2 ⟨g, v, rfl, h2, b2⟩
  have HM2 := Lib.hid (HOf.out w2 _ g v h2)
  have HB2 := Lib.hid b2
  clear h2 b2
  go_wp2_with fail
  refine Calls.mono HM2.out ?_
  rintro r w3 ⟨rfl, b3⟩
  have HB3 := Lib.hid (HB2.out.trans (b3.mono HB2.out.size))
  clear b3
  go_wp2_with fail
  go_ret
  exact ⟨rfl, HB3.out⟩
theorem to_some (w : World) (A : Option Addr) (ws : List (BitVec 64)) (c : Nat) (hr : Rd u64v w w.heap.size A ws) (hl : ws.length ≤ 8192) (b t e : Nat) (hbt : b ≤ t) (hte : t ≤ e) (hel : e ≤ ws.length) (l : List Nat) (ho : objF ws t (t + 1) b = some l) : Calls Tryd.prog 8 #[.slice A ws.length c, .int .i64 b, .int .i64 t, .int .i64 e] w fun r w' => ∃ s g v, r = .returned (.pointer (some ⟨s, 0, none⟩)) ∧ SpAt w' w.heap.size s g v ws b t e ∧ Below w.heap.size w w' := by
  have HMem := Lib.hid (mem15_c w A c ws hr hl)
  have HOf := Lib.hid (fun W B g v (h : MemAt W B g v ws) => sof_some W B g v ws b t e h hbt hte hel (by omega) l ho)
  obtain ⟨N, hN⟩ : ∃ N, N = ws.length := ⟨_, rfl⟩
  rw [← hN] at HMem ⊢
  clear hr hl hN ho hbt hte hel
  go_enter Tryd.func8, Tryd.ntmps8
  go_wp2_with fail
  refine Calls.mono HMem.out ?_
  rintro r w2 ⟨g, v, rfl, h2, b2⟩
  have HM2 := Lib.hid (HOf.out w2 _ g v h2)
  have HB2 := Lib.hid b2
  clear h2 b2
  go_wp2_with fail
  refine Calls.mono HM2.out ?_
  rintro r w3 ⟨s, rfl, h3, b3⟩
  have HB3 := Lib.hid (And.intro h3 (HB2.out.trans (b3.mono HB2.out.size)))
  clear b3 h3
  go_wp2_with fail
  go_ret
  exact ⟨s, g, v, rfl, HB3.out.1, HB3.out.2⟩
/-- What To makes of words. -/
def toP (ws : List (BitVec 64)) (b t e : Int) (w : World) (r : Ending) (w' : World) : Prop :=
  (r = .returned (.pointer none) ∧ Below w.heap.size w w') ∨ ∃ (B T E : Nat) (s g : Nat) (v : Value) (l : List Nat), b = (B : Int) ∧ t = (T : Int) ∧ e = (E : Int) ∧ B ≤ T ∧ T ≤ E ∧ E ≤ ws.length ∧ objF ws T (T + 1) B = some l ∧ r = .returned (.pointer (some ⟨s, 0, none⟩)) ∧ SpAt w' w.heap.size s g v ws B T E ∧ Below w.heap.size w w'
theorem to_c (w : World) (A : Option Addr) (ws : List (BitVec 64)) (c : Nat) (hr : Rd u64v w w.heap.size A ws) (hl : ws.length ≤ 8192) (b t e : Int) : Calls Tryd.prog 8 #[.slice A ws.length c, .int .i64 b, .int .i64 t, .int .i64 e] w (toP ws b t e w) := by
  by_cases ho : toN ws b t e
  · exact (to_out w A ws c hr hl b t e ho).mono fun r w' h => .inl h
  · unfold toN at ho
    obtain ⟨B, rfl⟩ : ∃ k : Nat, b = (k : Int) := ⟨b.toNat, by omega⟩
    obtain ⟨T, rfl⟩ : ∃ k : Nat, t = (k : Int) := ⟨t.toNat, by omega⟩
    obtain ⟨E, rfl⟩ : ∃ k : Nat, e = (k : Int) := ⟨e.toNat, by omega⟩
    cases h : objF ws T (T + 1) B with
    | none => exact (to_none w A ws c hr hl B T E (by omega) (by omega) (by omega) h).mono fun r w' h => .inl h
    | some l => exact (to_some w A ws c hr hl B T E (by omega) (by omega) (by omega) l h).mono fun r w' ⟨s, g, v, h1, h2, h3⟩ => .inr ⟨B, T, E, s, g, v, l, rfl, rfl, rfl, by omega, by omega, by omega, h, h1, h2, h3⟩
end Go.Proofs.YtfodefgihicafaaDoor
/- How a row of loamlaw16's acts is opened: four numbers and a row of bytes each. No conditions. -/
namespace Go.Proofs.YtfodefgihicafaaDoor
set_option linter.unusedVariables false
set_option linter.unusedSimpArgs false
open Go.ChangeShapes Go.WideShapes Go.ChangeAt Go.RowKit
set_option maxRecDepth 100000
/-- One of ObjectPlays' acts. -/
structure Oc where
  op : Int
  at_ : Int
  i : Int
  n : Int
  ba : Option Addr
  bb : List (BitVec 8)
  bc : Nat
structure OcAt (W : World) (B : Nat) (ad : Addr) (k : Nat) (x : Oc) : Prop where
  blk : ad.block < B
  op : W.cell? (ad.add (k * 5)) = some (.int .i64 x.op)
  at_ : W.cell? ⟨(ad.add (k * 5)).block, (ad.add (k * 5)).off + 1, none⟩ = some (.int .i64 x.at_)
  i : W.cell? ⟨(ad.add (k * 5)).block, (ad.add (k * 5)).off + 2, none⟩ = some (.int .i64 x.i)
  n : W.cell? ⟨(ad.add (k * 5)).block, (ad.add (k * 5)).off + 3, none⟩ = some (.int .i64 x.n)
  b : W.cell? ⟨(ad.add (k * 5)).block, (ad.add (k * 5)).off + 4, none⟩ = some (.slice x.ba x.bb.length x.bc)
  w0 : (Lit.int .i64 x.op).wf = true
  w1 : (Lit.int .i64 x.at_).wf = true
  w2 : (Lit.int .i64 x.i).wf = true
  w3 : (Lit.int .i64 x.n).wf = true
  bbc : x.bb.length ≤ x.bc
  bcm : x.bc ≤ maxLen
  br : Rd b8 W B x.ba x.bb
theorem OcAt.below {W W' : World} {B k : Nat} {ad : Addr} {x : Oc} (m : OcAt W B ad k x) (hb : Below B W W') : OcAt W' B ad k x := by
  have hbk : (ad.add (k * 5)).block < B := by rw [add_block]; exact m.blk
  have c : ∀ j, W'.cell? ⟨(ad.add (k * 5)).block, (ad.add (k * 5)).off + j, none⟩ = W.cell? ⟨(ad.add (k * 5)).block, (ad.add (k * 5)).off + j, none⟩ := fun j => hb.cell (p := ⟨(ad.add (k * 5)).block, (ad.add (k * 5)).off + j, none⟩) hbk
  exact ⟨m.blk, (hb.cell hbk).trans m.op, (c _).trans m.at_, (c _).trans m.i, (c _).trans m.n, (c _).trans m.b, m.w0, m.w1, m.w2, m.w3, m.bbc, m.bcm, m.br.below hb⟩
def Ocs (W : World) (B : Nat) (A : Option Addr) (l : List Oc) : Prop := ∀ k (h : k < l.length), ∃ ad, A = some ad ∧ OcAt W B ad k l[k]
theorem open_rows_Act {H : Type} {enc : TypeId × Value → H} {W : World} {base : Nat} {sp : Nat → Bool} {hd : Bool} {r : Reach} {b0 : Nat} {v : Value} {d : DataW H} {p : List MemPlace}
    (hv : Value.okWide Tryd.prog W r b0 23 v) (h : DataW.Trod enc Tryd.prog W base sp hd 23 v d p) :
    ∃ (A : Option Addr) (l : List Oc) (c : Nat), v = .slice A l.length c ∧ l.length ≤ c ∧ c ≤ maxLen ∧ Ocs W W.heap.size A l := by
  have he := Tryd.underlying32
  obtain ⟨A, n, c, rfl, hn, hm, hrow⟩ := rows_at (K := 5) Tryd.underlying23 he (by kernel_rfl) (by kernel_rfl) rfl hv h
  obtain ⟨l, hl, hp⟩ := choose_lst (α := Oc) (p := fun k x => ∃ ad, A = some ad ∧ OcAt W W.heap.size ad k x) n (fun k hk => by
    obtain ⟨ad, m, e, hf⟩ := hrow k hk
    obtain ⟨u0, y0, c0, t0⟩ := hf 0 _ rfl
    obtain ⟨u1, y1, c1, t1⟩ := hf 1 _ rfl
    obtain ⟨u2, y2, c2, t2⟩ := hf 2 _ rfl
    obtain ⟨u3, y3, c3, t3⟩ := hf 3 _ rfl
    obtain ⟨u4, y4, c4, t4⟩ := hf 4 _ rfl
    obtain ⟨a0, rfl, w0⟩ := cell_int (k := .i64) (by kernel_rfl) t0
    obtain ⟨a1, rfl, w1⟩ := cell_int (k := .i64) (by kernel_rfl) t1
    obtain ⟨a2, rfl, w2⟩ := cell_int (k := .i64) (by kernel_rfl) t2
    obtain ⟨a3, rfl, w3⟩ := cell_int (k := .i64) (by kernel_rfl) t3
    obtain ⟨A5, b5, n5, rfl, h5, hm5, r5⟩ := cell_nums b8 (k := .u8) (e := 5) num8 (by kernel_rfl) (by kernel_rfl) (by kernel_rfl) t4
    have hb := cell_lt c0
    rw [add_block] at hb
    exact ⟨⟨a0, a1, a2, a3, A5, b5, n5⟩, ad, e, ⟨hb, c0, (congrArg W.cell? (add_far ad (k * 5) 0)).symm.trans c1, (congrArg W.cell? (add_far ad (k * 5) 1)).symm.trans c2, (congrArg W.cell? (add_far ad (k * 5) 2)).symm.trans c3, (congrArg W.cell? (add_far ad (k * 5) 3)).symm.trans c4, w0, w1, w2, w3, h5, hm5, r5⟩⟩)
  subst hl
  exact ⟨A, l, c, rfl, hn, hm, hp⟩
end Go.Proofs.YtfodefgihicafaaDoor
