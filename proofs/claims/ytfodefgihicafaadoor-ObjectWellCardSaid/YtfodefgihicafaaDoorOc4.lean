/- Texts joined: ObN ObO OpenW. -/
import Derived.Test.YtfodefgihicafaaDoorOc3
import Derived.Test.YtfodefgihicafaaDoorObF
import Derived.Test.YtfodefgihicafaaDoorSpH
import Derived.Test.YtfodefgihicafaaDoorFrame
import Derived.Test.YtfodefgihicafaaDoorMmA
/- The reference's Well. Conditions: lengths. -/
namespace Go.Proofs.YtfodefgihicafaaDoor
set_option linter.unusedVariables false
set_option linter.unusedSimpArgs false
open Go.RowKit Go.Maps
set_option maxHeartbeats 1000000
set_option maxRecDepth 100000
theorem rw7 (Q : Exit → Act → World → Prop) (a0 : Act) (w : World) (R a i N : Nat) (A B : Option Addr) (L c cl : Nat) (x : BitVec 64) (P n : Int) (hR : R < w.heap.size) (ad ad2 : Addr) (hA : A = some ad) (hB : B = some ad2) (c0 : w.cell? ⟨R, 0, none⟩ = some (.slice A L c)) (hlt : (ad2.add i).block < w.heap.size) (hlt2 : (ad.add a).block < w.heap.size) (cl1 : w.cell? (ad2.add i) = some (.int .i64 (a : Int))) (q0 : (0 : Int) ≤ (i : Int)) (q1 : (i : Int) < (N : Int)) (q2 : (0 : Int) ≤ (a : Int)) (q6 : (a : Int) < (L : Int)) (cw : w.cell? (ad.add a) = some (.int .u64 (U64 x))) (hp : Hid (∀ W, Calls Tryd.prog 46 #[.int .u64 (U64 x)] W (RetP (.tuple #[.agg #[.int .i64 P, .int .i64 n, .bool false, .int .i64 0], .int .i64 0]) W))) (hsz : a0.tmps.size = 65) (sl0 : a0.tmps.getD 0 undef = .pointer (some ⟨R, 0, none⟩)) (sl3 : a0.tmps.getD 3 undef = .slice B N cl) (sl5 : a0.tmps.getD 5 undef = .int .i64 (i : Int))
    (fin : ∀ (vals : Nat → Value) (w1 : World), Below w.heap.size w w1 → (BoxC 74 (#[.int .i64 P, .int .i64 n, .bool false, .int .i64 0]) w.heap.size) (vals 14) w1 → (IsV (.int .i64 0)) (vals 16) w1 → Q .normal (putO vals [some 23, some 24, some 25, some 26, some 27, some 28, some 29, some 30, some 31, some 32, some 33, some 22, some 34, some 35, some 6, none, some 7] 0 a0) w1) :
    (Code.region 7 (regIn Tryd.f19 7) true).wp Tryd.prog Q a0 w := by
  have hGs : ∀ (j : Nat) (v : Value) (w3 : World), (srcOf [(15, 14)] j = j → (([IsV (.pointer (some ⟨R, 0, none⟩)), IsV (.pointer (some ⟨R, 0, none⟩)), IsV (.pointer (some ⟨R, 0, none⟩)), IsV (.slice A L c), IsV (.slice B N cl), IsV (.int .i64 (i : Int)), IsV (.pointer (some (ad2.add i))), IsV (.int .i64 (a : Int)), IsV (.pointer (some (ad.add a))), IsV (.int .u64 (U64 x)), IsV (.tuple #[.agg #[.int .i64 P, .int .i64 n, .bool false, .int .i64 0], .int .i64 0]), IsV (.tuple #[.agg #[.int .i64 P, .int .i64 n, .bool false, .int .i64 0], .int .i64 0]), IsV (.agg #[.int .i64 P, .int .i64 n, .bool false, .int .i64 0]), IsV (.int .i64 0), BoxV 74 4 w.heap.size, BoxC 74 (#[.int .i64 P, .int .i64 n, .bool false, .int .i64 0]) w.heap.size, IsV (.int .i64 0)] : List (Value → World → Prop)).getD j fun _ _ => True) v w3) → (([IsV (.pointer (some ⟨R, 0, none⟩)), IsV (.pointer (some ⟨R, 0, none⟩)), IsV (.pointer (some ⟨R, 0, none⟩)), IsV (.slice A L c), IsV (.slice B N cl), IsV (.int .i64 (i : Int)), IsV (.pointer (some (ad2.add i))), IsV (.int .i64 (a : Int)), IsV (.pointer (some (ad.add a))), IsV (.int .u64 (U64 x)), IsV (.tuple #[.agg #[.int .i64 P, .int .i64 n, .bool false, .int .i64 0], .int .i64 0]), IsV (.tuple #[.agg #[.int .i64 P, .int .i64 n, .bool false, .int .i64 0], .int .i64 0]), IsV (.agg #[.int .i64 P, .int .i64 n, .bool false, .int .i64 0]), IsV (.int .i64 0), BoxV 74 4 w.heap.size, fun _ _ => True, IsV (.int .i64 0)] : List (Value → World → Prop)).getD j fun _ _ => True) v w3 := by
    intro j v w3 h
    match j, h with
    | 0, h => exact h rfl
    | 1, h => exact h rfl
    | 2, h => exact h rfl
    | 3, h => exact h rfl
    | 4, h => exact h rfl
    | 5, h => exact h rfl
    | 6, h => exact h rfl
    | 7, h => exact h rfl
    | 8, h => exact h rfl
    | 9, h => exact h rfl
    | 10, h => exact h rfl
    | 11, h => exact h rfl
    | 12, h => exact h rfl
    | 13, h => exact h rfl
    | 14, h => exact h rfl
    | 15, h => exact trivial
    | 16, h => exact h rfl
    | _ + 17, _ => exact trivial
  refine region_byG [IsV (.pointer (some ⟨R, 0, none⟩)),
    IsV (.pointer (some ⟨R, 0, none⟩)),
    IsV (.pointer (some ⟨R, 0, none⟩)),
    IsV (.slice A L c),
    IsV (.slice B N cl),
    IsV (.int .i64 (i : Int)),
    IsV (.pointer (some (ad2.add i))),
    IsV (.int .i64 (a : Int)),
    IsV (.pointer (some (ad.add a))),
    IsV (.int .u64 (U64 x)),
    IsV (.tuple #[.agg #[.int .i64 P, .int .i64 n, .bool false, .int .i64 0], .int .i64 0]),
    IsV (.tuple #[.agg #[.int .i64 P, .int .i64 n, .bool false, .int .i64 0], .int .i64 0]),
    IsV (.agg #[.int .i64 P, .int .i64 n, .bool false, .int .i64 0]),
    IsV (.int .i64 0),
    BoxV 74 4 w.heap.size,
    BoxC 74 (#[.int .i64 P, .int .i64 n, .bool false, .int .i64 0]) w.heap.size,
    IsV (.int .i64 0)] [(15, StD 74 4 w.heap.size)] [(15, 14)]
    [some 23, some 24, some 25, some 26, some 27, some 28, some 29, some 30, some 31, some 32, some 33, some 22, some 34, some 35, some 6, none, some 7] (by kernel_rfl) (by rw [hsz]; kernel_rfl) (by kernel_rfl) (by kernel_rfl) ?_ ?_ ?_ ?_
  · intro f hf
    simp only [List.mem_cons, List.not_mem_nil, or_false] at hf
    rcases hf with rfl | rfl | rfl | rfl | rfl | rfl | rfl | rfl | rfl | rfl | rfl | rfl | rfl | rfl | rfl | rfl | rfl <;> intro v a b h g <;> first | exact IsV.mono h | exact BoxV.mono h g | exact BoxC.mono h g
  · intro p hp
    simp only [List.mem_cons, List.not_mem_nil, or_false] at hp
    rcases hp with rfl
    · refine ⟨fun a b h1 h2 => StD.below (Nat.le_refl _) h1 h1.size h2, ?_⟩
      intro f hf
      simp only [List.eraseIdx_cons_succ, List.eraseIdx_cons_zero, List.mem_cons, List.not_mem_nil, or_false] at hf
      rcases hf with rfl | rfl | rfl | rfl | rfl | rfl | rfl | rfl | rfl | rfl | rfl | rfl | rfl | rfl | rfl | rfl <;> intro v a b h g <;> first | exact IsV.st h g | exact BoxV.st h g | exact BoxC.st (by decide) h g
  · refine ⟨?_, ?_, ?_, ?_, ?_, ?_, ?_, ?_, ?_, ?_, ?_, ?_, ?_, ?_, ?_, ?_, ?_, trivial⟩
    · refine OwesG.mk2 (D := Gw) (F' := fun j => ([IsV (.pointer (some ⟨R, 0, none⟩)), IsV (.pointer (some ⟨R, 0, none⟩)), IsV (.pointer (some ⟨R, 0, none⟩)), IsV (.slice A L c), IsV (.slice B N cl), IsV (.int .i64 (i : Int)), IsV (.pointer (some (ad2.add i))), IsV (.int .i64 (a : Int)), IsV (.pointer (some (ad.add a))), IsV (.int .u64 (U64 x)), IsV (.tuple #[.agg #[.int .i64 P, .int .i64 n, .bool false, .int .i64 0], .int .i64 0]), IsV (.tuple #[.agg #[.int .i64 P, .int .i64 n, .bool false, .int .i64 0], .int .i64 0]), IsV (.agg #[.int .i64 P, .int .i64 n, .bool false, .int .i64 0]), IsV (.int .i64 0), BoxV 74 4 w.heap.size, fun _ _ => True, IsV (.int .i64 0)] : List (Value → World → Prop)).getD j fun _ _ => True) rfl hGs (fun v w h => h) ?_
      exact owes_mvD gw_self 0 (by kernel_rfl) (by kernel_rfl) (by kernel_rfl) sl0 (fun _ => rfl)
    · refine OwesG.mk2 (D := Gw) (F' := fun j => ([IsV (.pointer (some ⟨R, 0, none⟩)), IsV (.pointer (some ⟨R, 0, none⟩)), IsV (.pointer (some ⟨R, 0, none⟩)), IsV (.slice A L c), IsV (.slice B N cl), IsV (.int .i64 (i : Int)), IsV (.pointer (some (ad2.add i))), IsV (.int .i64 (a : Int)), IsV (.pointer (some (ad.add a))), IsV (.int .u64 (U64 x)), IsV (.tuple #[.agg #[.int .i64 P, .int .i64 n, .bool false, .int .i64 0], .int .i64 0]), IsV (.tuple #[.agg #[.int .i64 P, .int .i64 n, .bool false, .int .i64 0], .int .i64 0]), IsV (.agg #[.int .i64 P, .int .i64 n, .bool false, .int .i64 0]), IsV (.int .i64 0), BoxV 74 4 w.heap.size, fun _ _ => True, IsV (.int .i64 0)] : List (Value → World → Prop)).getD j fun _ _ => True) rfl hGs (fun v w h => h) ?_
      refine owes_vD (Go.Op.nilCheck (Go.Operand.tmp 23)) 0 [0] (by kernel_rfl) (by kernel_rfl) (by kernel_rfl) rfl fun vals w1 ρ hG hF hρ hcst hfun => ?_
      have e23 : ρ (.tmp 23) = .pointer (some ⟨R, 0, none⟩) := ((hρ 23).trans (slotJ [0] (by rw [hsz]; decide) (by kernel_rfl))).trans (hF 0 (by decide))
      clear hρ hF hGs hcst hfun sl0 sl3 sl5 fin
      exact opv_val (by go_simp <;> rfl) ⟨gw_self _, rfl⟩
    · refine OwesG.mk2 (D := Gw) (F' := fun j => ([IsV (.pointer (some ⟨R, 0, none⟩)), IsV (.pointer (some ⟨R, 0, none⟩)), IsV (.pointer (some ⟨R, 0, none⟩)), IsV (.slice A L c), IsV (.slice B N cl), IsV (.int .i64 (i : Int)), IsV (.pointer (some (ad2.add i))), IsV (.int .i64 (a : Int)), IsV (.pointer (some (ad.add a))), IsV (.int .u64 (U64 x)), IsV (.tuple #[.agg #[.int .i64 P, .int .i64 n, .bool false, .int .i64 0], .int .i64 0]), IsV (.tuple #[.agg #[.int .i64 P, .int .i64 n, .bool false, .int .i64 0], .int .i64 0]), IsV (.agg #[.int .i64 P, .int .i64 n, .bool false, .int .i64 0]), IsV (.int .i64 0), BoxV 74 4 w.heap.size, fun _ _ => True, IsV (.int .i64 0)] : List (Value → World → Prop)).getD j fun _ _ => True) rfl hGs (fun v w h => h) ?_
      refine owes_vD (Go.Op.fieldAddr 29 (Go.Operand.tmp 24) 0) 0 [1] (by kernel_rfl) (by kernel_rfl) (by kernel_rfl) rfl fun vals w1 ρ hG hF hρ hcst hfun => ?_
      have e24 : ρ (.tmp 24) = .pointer (some ⟨R, 0, none⟩) := ((hρ 24).trans (slotJ [1] (by rw [hsz]; decide) (by kernel_rfl))).trans (hF 1 (by decide))
      clear hρ hF hGs hcst hfun sl0 sl3 sl5 fin
      exact opv_val (by go_simp <;> rfl) ⟨gw_self _, rfl⟩
    · refine OwesG.mk2 (D := Gw) (F' := fun j => ([IsV (.pointer (some ⟨R, 0, none⟩)), IsV (.pointer (some ⟨R, 0, none⟩)), IsV (.pointer (some ⟨R, 0, none⟩)), IsV (.slice A L c), IsV (.slice B N cl), IsV (.int .i64 (i : Int)), IsV (.pointer (some (ad2.add i))), IsV (.int .i64 (a : Int)), IsV (.pointer (some (ad.add a))), IsV (.int .u64 (U64 x)), IsV (.tuple #[.agg #[.int .i64 P, .int .i64 n, .bool false, .int .i64 0], .int .i64 0]), IsV (.tuple #[.agg #[.int .i64 P, .int .i64 n, .bool false, .int .i64 0], .int .i64 0]), IsV (.agg #[.int .i64 P, .int .i64 n, .bool false, .int .i64 0]), IsV (.int .i64 0), BoxV 74 4 w.heap.size, fun _ _ => True, IsV (.int .i64 0)] : List (Value → World → Prop)).getD j fun _ _ => True) rfl hGs (fun v w h => h) ?_
      refine owes_vD (Go.Op.load 22 (Go.Operand.tmp 25)) 22 [2] (by kernel_rfl) (by kernel_rfl) (by kernel_rfl) rfl fun vals w1 ρ hG hF hρ hcst hfun => ?_
      have e25 : ρ (.tmp 25) = .pointer (some ⟨R, 0, none⟩) := ((hρ 25).trans (slotJ [2] (by rw [hsz]; decide) (by kernel_rfl))).trans (hF 2 (by decide))
      have k := (hG.cell (p := ⟨R, 0, none⟩) hR).trans c0
      clear hρ hF hGs hcst hfun sl0 sl3 sl5 fin
      exact opv_val (by go_simp <;> rfl) ⟨gw_self _, rfl⟩
    · refine OwesG.mk2 (D := Gw) (F' := fun j => ([IsV (.pointer (some ⟨R, 0, none⟩)), IsV (.pointer (some ⟨R, 0, none⟩)), IsV (.pointer (some ⟨R, 0, none⟩)), IsV (.slice A L c), IsV (.slice B N cl), IsV (.int .i64 (i : Int)), IsV (.pointer (some (ad2.add i))), IsV (.int .i64 (a : Int)), IsV (.pointer (some (ad.add a))), IsV (.int .u64 (U64 x)), IsV (.tuple #[.agg #[.int .i64 P, .int .i64 n, .bool false, .int .i64 0], .int .i64 0]), IsV (.tuple #[.agg #[.int .i64 P, .int .i64 n, .bool false, .int .i64 0], .int .i64 0]), IsV (.agg #[.int .i64 P, .int .i64 n, .bool false, .int .i64 0]), IsV (.int .i64 0), BoxV 74 4 w.heap.size, fun _ _ => True, IsV (.int .i64 0)] : List (Value → World → Prop)).getD j fun _ _ => True) rfl hGs (fun v w h => h) ?_
      exact owes_mvD gw_self 3 (by kernel_rfl) (by kernel_rfl) (by kernel_rfl) sl3 (fun _ => rfl)
    · refine OwesG.mk2 (D := Gw) (F' := fun j => ([IsV (.pointer (some ⟨R, 0, none⟩)), IsV (.pointer (some ⟨R, 0, none⟩)), IsV (.pointer (some ⟨R, 0, none⟩)), IsV (.slice A L c), IsV (.slice B N cl), IsV (.int .i64 (i : Int)), IsV (.pointer (some (ad2.add i))), IsV (.int .i64 (a : Int)), IsV (.pointer (some (ad.add a))), IsV (.int .u64 (U64 x)), IsV (.tuple #[.agg #[.int .i64 P, .int .i64 n, .bool false, .int .i64 0], .int .i64 0]), IsV (.tuple #[.agg #[.int .i64 P, .int .i64 n, .bool false, .int .i64 0], .int .i64 0]), IsV (.agg #[.int .i64 P, .int .i64 n, .bool false, .int .i64 0]), IsV (.int .i64 0), BoxV 74 4 w.heap.size, fun _ _ => True, IsV (.int .i64 0)] : List (Value → World → Prop)).getD j fun _ _ => True) rfl hGs (fun v w h => h) ?_
      exact owes_mvD gw_self 5 (by kernel_rfl) (by kernel_rfl) (by kernel_rfl) sl5 (fun _ => rfl)
    · refine OwesG.mk2 (D := Gw) (F' := fun j => ([IsV (.pointer (some ⟨R, 0, none⟩)), IsV (.pointer (some ⟨R, 0, none⟩)), IsV (.pointer (some ⟨R, 0, none⟩)), IsV (.slice A L c), IsV (.slice B N cl), IsV (.int .i64 (i : Int)), IsV (.pointer (some (ad2.add i))), IsV (.int .i64 (a : Int)), IsV (.pointer (some (ad.add a))), IsV (.int .u64 (U64 x)), IsV (.tuple #[.agg #[.int .i64 P, .int .i64 n, .bool false, .int .i64 0], .int .i64 0]), IsV (.tuple #[.agg #[.int .i64 P, .int .i64 n, .bool false, .int .i64 0], .int .i64 0]), IsV (.agg #[.int .i64 P, .int .i64 n, .bool false, .int .i64 0]), IsV (.int .i64 0), BoxV 74 4 w.heap.size, fun _ _ => True, IsV (.int .i64 0)] : List (Value → World → Prop)).getD j fun _ _ => True) rfl hGs (fun v w h => h) ?_
      refine owes_vD (Go.Op.indexAddr 62 (Go.Operand.tmp 27) (Go.Operand.tmp 28)) 0 [4, 5] (by kernel_rfl) (by kernel_rfl) (by kernel_rfl) rfl fun vals w1 ρ hG hF hρ hcst hfun => ?_
      have e27 : ρ (.tmp 27) = .slice B N cl := ((hρ 27).trans (slotJ [4, 5] (by rw [hsz]; decide) (by kernel_rfl))).trans (hF 4 (by decide))
      have e28 : ρ (.tmp 28) = .int .i64 (i : Int) := ((hρ 28).trans (slotJ [4, 5] (by rw [hsz]; decide) (by kernel_rfl))).trans (hF 5 (by decide))
      subst hB
      clear hρ hF hGs hcst hfun sl0 sl3 sl5 fin
      exact opv_val (by go_simp <;> rfl) ⟨gw_self _, rfl⟩
    · refine OwesG.mk2 (D := Gw) (F' := fun j => ([IsV (.pointer (some ⟨R, 0, none⟩)), IsV (.pointer (some ⟨R, 0, none⟩)), IsV (.pointer (some ⟨R, 0, none⟩)), IsV (.slice A L c), IsV (.slice B N cl), IsV (.int .i64 (i : Int)), IsV (.pointer (some (ad2.add i))), IsV (.int .i64 (a : Int)), IsV (.pointer (some (ad.add a))), IsV (.int .u64 (U64 x)), IsV (.tuple #[.agg #[.int .i64 P, .int .i64 n, .bool false, .int .i64 0], .int .i64 0]), IsV (.tuple #[.agg #[.int .i64 P, .int .i64 n, .bool false, .int .i64 0], .int .i64 0]), IsV (.agg #[.int .i64 P, .int .i64 n, .bool false, .int .i64 0]), IsV (.int .i64 0), BoxV 74 4 w.heap.size, fun _ _ => True, IsV (.int .i64 0)] : List (Value → World → Prop)).getD j fun _ _ => True) rfl hGs (fun v w h => h) ?_
      refine owes_vD (Go.Op.load 3 (Go.Operand.tmp 29)) 3 [6] (by kernel_rfl) (by kernel_rfl) (by kernel_rfl) rfl fun vals w1 ρ hG hF hρ hcst hfun => ?_
      have e29 : ρ (.tmp 29) = .pointer (some (ad2.add i)) := ((hρ 29).trans (slotJ [6] (by rw [hsz]; decide) (by kernel_rfl))).trans (hF 6 (by decide))
      have k := (hG.cell (p := ad2.add i) hlt).trans cl1
      clear hρ hF hGs hcst hfun sl0 sl3 sl5 fin
      exact opv_val (by go_simp <;> rfl) ⟨gw_self _, rfl⟩
    · refine OwesG.mk2 (D := Gw) (F' := fun j => ([IsV (.pointer (some ⟨R, 0, none⟩)), IsV (.pointer (some ⟨R, 0, none⟩)), IsV (.pointer (some ⟨R, 0, none⟩)), IsV (.slice A L c), IsV (.slice B N cl), IsV (.int .i64 (i : Int)), IsV (.pointer (some (ad2.add i))), IsV (.int .i64 (a : Int)), IsV (.pointer (some (ad.add a))), IsV (.int .u64 (U64 x)), IsV (.tuple #[.agg #[.int .i64 P, .int .i64 n, .bool false, .int .i64 0], .int .i64 0]), IsV (.tuple #[.agg #[.int .i64 P, .int .i64 n, .bool false, .int .i64 0], .int .i64 0]), IsV (.agg #[.int .i64 P, .int .i64 n, .bool false, .int .i64 0]), IsV (.int .i64 0), BoxV 74 4 w.heap.size, fun _ _ => True, IsV (.int .i64 0)] : List (Value → World → Prop)).getD j fun _ _ => True) rfl hGs (fun v w h => h) ?_
      refine owes_vD (Go.Op.indexAddr 22 (Go.Operand.tmp 26) (Go.Operand.tmp 30)) 0 [3, 7] (by kernel_rfl) (by kernel_rfl) (by kernel_rfl) rfl fun vals w1 ρ hG hF hρ hcst hfun => ?_
      have e26 : ρ (.tmp 26) = .slice A L c := ((hρ 26).trans (slotJ [3, 7] (by rw [hsz]; decide) (by kernel_rfl))).trans (hF 3 (by decide))
      have e30 : ρ (.tmp 30) = .int .i64 (a : Int) := ((hρ 30).trans (slotJ [3, 7] (by rw [hsz]; decide) (by kernel_rfl))).trans (hF 7 (by decide))
      subst hA
      clear hρ hF hGs hcst hfun sl0 sl3 sl5 fin
      exact opv_val (by go_simp <;> rfl) ⟨gw_self _, rfl⟩
    · refine OwesG.mk2 (D := Gw) (F' := fun j => ([IsV (.pointer (some ⟨R, 0, none⟩)), IsV (.pointer (some ⟨R, 0, none⟩)), IsV (.pointer (some ⟨R, 0, none⟩)), IsV (.slice A L c), IsV (.slice B N cl), IsV (.int .i64 (i : Int)), IsV (.pointer (some (ad2.add i))), IsV (.int .i64 (a : Int)), IsV (.pointer (some (ad.add a))), IsV (.int .u64 (U64 x)), IsV (.tuple #[.agg #[.int .i64 P, .int .i64 n, .bool false, .int .i64 0], .int .i64 0]), IsV (.tuple #[.agg #[.int .i64 P, .int .i64 n, .bool false, .int .i64 0], .int .i64 0]), IsV (.agg #[.int .i64 P, .int .i64 n, .bool false, .int .i64 0]), IsV (.int .i64 0), BoxV 74 4 w.heap.size, fun _ _ => True, IsV (.int .i64 0)] : List (Value → World → Prop)).getD j fun _ _ => True) rfl hGs (fun v w h => h) ?_
      refine owes_vD (Go.Op.load 68 (Go.Operand.tmp 31)) 68 [8] (by kernel_rfl) (by kernel_rfl) (by kernel_rfl) rfl fun vals w1 ρ hG hF hρ hcst hfun => ?_
      have e31 : ρ (.tmp 31) = .pointer (some (ad.add a)) := ((hρ 31).trans (slotJ [8] (by rw [hsz]; decide) (by kernel_rfl))).trans (hF 8 (by decide))
      have k := (hG.cell (p := ad.add a) hlt2).trans cw
      clear hρ hF hGs hcst hfun sl0 sl3 sl5 fin
      exact opv_val (by go_simp <;> rfl) ⟨gw_self _, rfl⟩
    · refine OwesG.mk2 (D := Gw) (F' := fun j => ([IsV (.pointer (some ⟨R, 0, none⟩)), IsV (.pointer (some ⟨R, 0, none⟩)), IsV (.pointer (some ⟨R, 0, none⟩)), IsV (.slice A L c), IsV (.slice B N cl), IsV (.int .i64 (i : Int)), IsV (.pointer (some (ad2.add i))), IsV (.int .i64 (a : Int)), IsV (.pointer (some (ad.add a))), IsV (.int .u64 (U64 x)), IsV (.tuple #[.agg #[.int .i64 P, .int .i64 n, .bool false, .int .i64 0], .int .i64 0]), IsV (.tuple #[.agg #[.int .i64 P, .int .i64 n, .bool false, .int .i64 0], .int .i64 0]), IsV (.agg #[.int .i64 P, .int .i64 n, .bool false, .int .i64 0]), IsV (.int .i64 0), BoxV 74 4 w.heap.size, fun _ _ => True, IsV (.int .i64 0)] : List (Value → World → Prop)).getD j fun _ _ => True) rfl hGs (fun v w h => h) ?_
      refine owes_vD (Go.Op.call { callee := Go.Callee.value (Go.Operand.func 46), args := #[Go.Operand.tmp 32], argTypes := #[68] }) 75 [9] (by kernel_rfl) (by kernel_rfl) (by kernel_rfl) rfl fun vals w1 ρ hG hF hρ hcst hfun => ?_
      have e32 : ρ (.tmp 32) = .int .u64 (U64 x) := ((hρ 32).trans (slotJ [9] (by rw [hsz]; decide) (by kernel_rfl))).trans (hF 9 (by decide))
      clear hρ hF hGs hcst sl0 sl3 sl5 fin
      exact opv_enter (by go_simp <;> rfl) (of_ret (hp.out w1))
    · refine OwesG.mk2 (D := Gw) (F' := fun j => ([IsV (.pointer (some ⟨R, 0, none⟩)), IsV (.pointer (some ⟨R, 0, none⟩)), IsV (.pointer (some ⟨R, 0, none⟩)), IsV (.slice A L c), IsV (.slice B N cl), IsV (.int .i64 (i : Int)), IsV (.pointer (some (ad2.add i))), IsV (.int .i64 (a : Int)), IsV (.pointer (some (ad.add a))), IsV (.int .u64 (U64 x)), IsV (.tuple #[.agg #[.int .i64 P, .int .i64 n, .bool false, .int .i64 0], .int .i64 0]), IsV (.tuple #[.agg #[.int .i64 P, .int .i64 n, .bool false, .int .i64 0], .int .i64 0]), IsV (.agg #[.int .i64 P, .int .i64 n, .bool false, .int .i64 0]), IsV (.int .i64 0), BoxV 74 4 w.heap.size, fun _ _ => True, IsV (.int .i64 0)] : List (Value → World → Prop)).getD j fun _ _ => True) rfl hGs (fun v w h => h) ?_
      exact owes_mvjD gw_self 10 33 (by kernel_rfl) (by kernel_rfl) (by kernel_rfl) (by kernel_rfl) (by rw [hsz]; decide) (fun v w h => h)
    · refine OwesG.mk2 (D := Gw) (F' := fun j => ([IsV (.pointer (some ⟨R, 0, none⟩)), IsV (.pointer (some ⟨R, 0, none⟩)), IsV (.pointer (some ⟨R, 0, none⟩)), IsV (.slice A L c), IsV (.slice B N cl), IsV (.int .i64 (i : Int)), IsV (.pointer (some (ad2.add i))), IsV (.int .i64 (a : Int)), IsV (.pointer (some (ad.add a))), IsV (.int .u64 (U64 x)), IsV (.tuple #[.agg #[.int .i64 P, .int .i64 n, .bool false, .int .i64 0], .int .i64 0]), IsV (.tuple #[.agg #[.int .i64 P, .int .i64 n, .bool false, .int .i64 0], .int .i64 0]), IsV (.agg #[.int .i64 P, .int .i64 n, .bool false, .int .i64 0]), IsV (.int .i64 0), BoxV 74 4 w.heap.size, fun _ _ => True, IsV (.int .i64 0)] : List (Value → World → Prop)).getD j fun _ _ => True) rfl hGs (fun v w h => h) ?_
      refine owes_vD (Go.Op.extract (Go.Operand.tmp 22) 0) 74 [11] (by kernel_rfl) (by kernel_rfl) (by kernel_rfl) rfl fun vals w1 ρ hG hF hρ hcst hfun => ?_
      have e22 : ρ (.tmp 22) = .tuple #[.agg #[.int .i64 P, .int .i64 n, .bool false, .int .i64 0], .int .i64 0] := ((hρ 22).trans (slotJ [11] (by rw [hsz]; decide) (by kernel_rfl))).trans (hF 11 (by decide))
      clear hρ hF hGs hcst hfun sl0 sl3 sl5 fin
      exact opv_val (by go_simp <;> rfl) ⟨gw_self _, rfl⟩
    · refine OwesG.mk2 (D := Gw) (F' := fun j => ([IsV (.pointer (some ⟨R, 0, none⟩)), IsV (.pointer (some ⟨R, 0, none⟩)), IsV (.pointer (some ⟨R, 0, none⟩)), IsV (.slice A L c), IsV (.slice B N cl), IsV (.int .i64 (i : Int)), IsV (.pointer (some (ad2.add i))), IsV (.int .i64 (a : Int)), IsV (.pointer (some (ad.add a))), IsV (.int .u64 (U64 x)), IsV (.tuple #[.agg #[.int .i64 P, .int .i64 n, .bool false, .int .i64 0], .int .i64 0]), IsV (.tuple #[.agg #[.int .i64 P, .int .i64 n, .bool false, .int .i64 0], .int .i64 0]), IsV (.agg #[.int .i64 P, .int .i64 n, .bool false, .int .i64 0]), IsV (.int .i64 0), BoxV 74 4 w.heap.size, fun _ _ => True, IsV (.int .i64 0)] : List (Value → World → Prop)).getD j fun _ _ => True) rfl hGs (fun v w h => h) ?_
      refine owes_vD (Go.Op.extract (Go.Operand.tmp 22) 1) 3 [11] (by kernel_rfl) (by kernel_rfl) (by kernel_rfl) rfl fun vals w1 ρ hG hF hρ hcst hfun => ?_
      have e22 : ρ (.tmp 22) = .tuple #[.agg #[.int .i64 P, .int .i64 n, .bool false, .int .i64 0], .int .i64 0] := ((hρ 22).trans (slotJ [11] (by rw [hsz]; decide) (by kernel_rfl))).trans (hF 11 (by decide))
      clear hρ hF hGs hcst hfun sl0 sl3 sl5 fin
      exact opv_val (by go_simp <;> rfl) ⟨gw_self _, rfl⟩
    · refine OwesG.mk2 (D := Gw) (F' := fun j => ([IsV (.pointer (some ⟨R, 0, none⟩)), IsV (.pointer (some ⟨R, 0, none⟩)), IsV (.pointer (some ⟨R, 0, none⟩)), IsV (.slice A L c), IsV (.slice B N cl), IsV (.int .i64 (i : Int)), IsV (.pointer (some (ad2.add i))), IsV (.int .i64 (a : Int)), IsV (.pointer (some (ad.add a))), IsV (.int .u64 (U64 x)), IsV (.tuple #[.agg #[.int .i64 P, .int .i64 n, .bool false, .int .i64 0], .int .i64 0]), IsV (.tuple #[.agg #[.int .i64 P, .int .i64 n, .bool false, .int .i64 0], .int .i64 0]), IsV (.agg #[.int .i64 P, .int .i64 n, .bool false, .int .i64 0]), IsV (.int .i64 0), BoxV 74 4 w.heap.size, fun _ _ => True, IsV (.int .i64 0)] : List (Value → World → Prop)).getD j fun _ _ => True) rfl hGs (fun v w h => h) ?_
      refine owes_vD (Go.Op.alloc 74) 0 [] (by kernel_rfl) (by kernel_rfl) (by kernel_rfl) rfl fun vals w1 ρ hG hF hρ hcst hfun => ?_
      clear hρ hF hGs hcst hfun sl0 sl3 sl5 fin
      exact opv_val (by go_simp <;> rfl) ⟨Gw.alloc _ _, ⟨_, _, rfl, hG.size, rfl, Bk.new _ _ _⟩⟩
    · exact owes_box (type := 0) (tp := 6) (tv := 34) (jp := 14) (jv := 12) (cs := #[.int .i64 P, .int .i64 n, .bool false, .int .i64 0]) (by kernel_rfl) (by kernel_rfl) (by kernel_rfl) (by kernel_rfl) (by kernel_rfl) (by kernel_rfl) (by rw [hsz]; decide) (by rw [hsz]; decide) (by decide) rfl rfl rfl (by kernel_rfl) rfl (by simp [Value.oneCell']) (fun _ _ h => h) (fun _ _ h => h) (fun _ _ h => h)
    · refine OwesG.mk2 (D := Gw) (F' := fun j => ([IsV (.pointer (some ⟨R, 0, none⟩)), IsV (.pointer (some ⟨R, 0, none⟩)), IsV (.pointer (some ⟨R, 0, none⟩)), IsV (.slice A L c), IsV (.slice B N cl), IsV (.int .i64 (i : Int)), IsV (.pointer (some (ad2.add i))), IsV (.int .i64 (a : Int)), IsV (.pointer (some (ad.add a))), IsV (.int .u64 (U64 x)), IsV (.tuple #[.agg #[.int .i64 P, .int .i64 n, .bool false, .int .i64 0], .int .i64 0]), IsV (.tuple #[.agg #[.int .i64 P, .int .i64 n, .bool false, .int .i64 0], .int .i64 0]), IsV (.agg #[.int .i64 P, .int .i64 n, .bool false, .int .i64 0]), IsV (.int .i64 0), BoxV 74 4 w.heap.size, fun _ _ => True, IsV (.int .i64 0)] : List (Value → World → Prop)).getD j fun _ _ => True) rfl hGs (fun v w h => h) ?_
      exact owes_mvjD gw_self 13 35 (by kernel_rfl) (by kernel_rfl) (by kernel_rfl) (by kernel_rfl) (by rw [hsz]; decide) (fun v w h => h)
  · intro vals w1 hG hF
    exact fin vals w1 hG (hF 15 (by decide +kernel)) (hF 16 (by decide +kernel))
theorem wellN_no {ws : List (BitVec 64)} {l : List Nat} {a k : Nat} {R : Int} (hR : R = if l.all (wellN ws l) = true then 0 else 2) (ha : a ∈ l) (hk : k < P0 (ws.getD a 0#64)) (h : ptrN ws l a k = false) : R = 2 := by
  rw [hR, if_neg (all_no ha ?_)]
  unfold wellN
  rw [Bool.and_eq_false_iff]
  left
  cases h2 : (List.range (P0 (ws.getD a 0#64))).all (ptrN ws l a) with
  | false => rfl
  | true =>
    have := List.all_eq_true.1 h2 k (List.mem_range.2 hk)
    rw [h] at this; cases this
theorem wellN_np {ws : List (BitVec 64)} {l : List Nat} {a : Nat} {R : Int} (hR : R = if l.all (wellN ws l) = true then 0 else 2) (ha : a ∈ l) (h : padN ws a = false) : R = 2 := by
  rw [hR, if_neg (all_no ha ?_)]
  unfold wellN
  rw [h, Bool.and_false]
set_option maxHeartbeats 4000000
theorem rwell_c (w : World) (s : Nat) (A : Option Addr) (c : Nat) (ws : List (BitVec 64)) (b t e : Nat) (p : RefAt w s A c ws b t e) (hbt : b ≤ t) (htw : t ≤ ws.length) (hl : ws.length ≤ 8192) :
    Calls Tryd.prog 19 #[.pointer (some ⟨s, 0, none⟩)] w (RetP (.int .i64 (wellE ws b t)) w) := by
  have HOb := Lib.hid (robjects_c w s A c ws b t e p hbt htw (by omega))
  obtain ⟨R, hR⟩ : ∃ R, R = wellE ws b t := ⟨_, rfl⟩
  rw [← hR]
  have HR := Lib.hid hR
  have HP := Lib.hid p
  have HL := Lib.hid hl
  have HT := Lib.hid htw
  obtain ⟨N0, hN0⟩ : ∃ N, N = ws.length := ⟨_, rfl⟩
  have HN0 := Lib.hid hN0
  clear hR p hl hbt htw hN0
  cases ho : objF ws t (t + 1) b with
  | none =>
    rw [ho] at HOb
    have HOb2 := Lib.hid (show Calls Tryd.prog 45 #[.pointer (some ⟨s, 0, none⟩)] w (RetP (.tuple #[.slice none 0 0, .bool false]) w) from HOb.out)
    obtain rfl : R = 2 := by rw [HR.out]; exact well_none ho
    clear HOb ho HR
    go_enter Tryd.func19, Tryd.ntmps19
    go_wp2_with fail
    refine Calls.mono HOb2.out ?_
    rintro r w2 ⟨rfl, b2⟩
    have HB2 := Lib.hid b2
    clear b2
    go_wp2_with fail
    go_ret
    exact ⟨rfl, HB2.out⟩
  | some l =>
    rw [ho] at HOb
    have HOb2 := Lib.hid (show Calls Tryd.prog 45 #[.pointer (some ⟨s, 0, none⟩)] w (fun e w' => ∃ A c, e = .returned (.tuple #[.slice A l.length c, .bool true]) ∧ l.length ≤ c ∧ Ow iN 3 w' w.heap.size (.slice A l.length c) l ∧ Below w.heap.size w w') from HOb.out)
    have HRl := Lib.hid (show R = if l.all (wellN ws l) = true then 0 else 2 from by rw [HR.out]; exact well_some ho)
    have HMem := Lib.hid (objF_mem _ _ _ ho)
    have hlen := objF_len _ _ _ ho
    obtain ⟨N, hN⟩ : ∃ N, N = l.length := ⟨_, rfl⟩
    have qN : (N : Int) ≤ 8193 := by have := HT.out; have := HL.out; omega
    have HN := Lib.hid hN
    clear HOb ho HR hlen hN
    go_enter Tryd.func19, Tryd.ntmps19
    go_wp2_with fail
    refine Calls.mono HOb2.out ?_
    rintro r w2 ⟨B, cl, rfl, hc, ho, b2⟩
    have HB2 := Lib.hid b2
    have HRd := Lib.hid ho.rd
    rw [← HN.out]
    clear hc ho b2 HOb2
    go_wp2_with fail
    go_loopw [5] (fun i W => ∃ k : Nat, i = .int .i64 k ∧ k ≤ N ∧ Hid ((l.take k).all (wellN ws l) = true) ∧ Hid (Below w2.heap.size w2 W)) (fun i _ => N - (Go.RowKit.intOf i).toNat)
    case atStart => exact ⟨0, rfl, Nat.zero_le _, Lib.hid rfl, Lib.hid (Below.refl _ _)⟩
    case round =>
      obtain ⟨k, rfl, hk, hW, hB⟩ := hrel
      by_cases hlt : k < N
      · have hkl : k < l.length := by rw [← HN.out]; exact hlt
        obtain ⟨a, ha⟩ : ∃ a, a = l[k] := ⟨_, rfl⟩
        have ham : a ∈ l := by rw [ha]; exact List.getElem_mem _
        obtain ⟨hab, hat, hag⟩ := HMem.out a ham
        obtain ⟨ad2, rfl, hb2, hc⟩ := (HRd.out.below hB.out) k hkl
        rw [← ha] at hc
        unfold iN at hc
        have haN : a < N0 := by have := HT.out; have := HN0.out; omega
        have hp0 := HP.out.below (HB2.out.trans (hB.out.mono HB2.out.size))
        obtain ⟨d0, _⟩ := hp0.four
        rw [← HN0.out] at d0
        obtain ⟨ad, hA, hb3, hcw⟩ := hp0.rd a (by rw [← HN0.out]; exact haN)
        have hxx : u64v ws[a] = .int .u64 (U64 (ws.getD a 0#64)) := by simp [List.getD, (by rw [← HN0.out]; exact haN : a < ws.length), u64v]
        rw [hxx] at hcw
        obtain ⟨hun, hP64, hB1024, hsz, hsh, hroom⟩ := head_of hag
        have HUn := Lib.hid (fun W => hun ▸ runpack_c (ws.getD a 0#64) W)
        have HTk := Lib.hid (show l.take (k + 1) = l.take k ++ [a] from by rw [List.take_succ_eq_append_getElem hkl, ha])
        have HWp := Lib.hid (fun j (hj : j < P0 (ws.getD a 0#64)) (h : ptrN ws l a j = false) => wellN_no HRl.out ham hj h)
        have HWq := Lib.hid (fun (h : padN ws a = false) => wellN_np HRl.out ham h)
        have hpe : padB ws (8 * (a + 1 + P0 (ws.getD a 0#64)) + B0 (ws.getD a 0#64)) (8 * (a + szX (ws.getD a 0#64)) - (8 * (a + 1 + P0 (ws.getD a 0#64)) + B0 (ws.getD a 0#64))) = padN ws a := rfl
        have HPd := Lib.hid (fun W (hr : RefAt W s A c ws b t e) => hpe ▸ rpad_c W s A c ws b t e hr (by have := HL.out; omega) a (P0 (ws.getD a 0#64)) (B0 (ws.getD a 0#64)) (szX (ws.getD a 0#64)) hP64 hB1024 hsh (by omega) (by have := HT.out; omega) (by omega))
        have HPt := Lib.hid (fun W (hr : Rd iN W W.heap.size (some ad2) l) x => HN.out ▸ points_c W (some ad2) cl l hr (by rw [← HN.out]; omega) (fun y hy => by have := (HMem.out y hy).2.1; have := HT.out; have := HL.out; omega) x)
        have HWn : wellN ws l a = ((List.range (P0 (ws.getD a 0#64))).all (ptrN ws l a) && padN ws a) := rfl
        have hsz2 : a + 1 + P0 (ws.getD a 0#64) ≤ N0 := by rw [HN0.out]; have := HT.out; omega
        obtain ⟨x, hx⟩ : ∃ x, x = ws.getD a 0#64 := ⟨_, rfl⟩
        rw [← hx] at hcw HUn HWp HPd HWn hP64 hsz2
        obtain ⟨P, hP'⟩ : ∃ P, P = P0 x := ⟨_, rfl⟩
        obtain ⟨n, hn'⟩ : ∃ P, P = B0 x := ⟨_, rfl⟩
        rw [← hP'] at HUn HWp HPd HWn hP64 hsz2
        rw [← hn'] at HUn HPd
        have HWn2 := Lib.hid (And.intro HWn ham)
        have q0 : (0 : Int) ≤ (k : Int) := by omega
        have q1 : (k : Int) < (N : Int) := by omega
        have q2 : (0 : Int) ≤ (a : Int) := by omega
        have q6 : (a : Int) < (N0 : Int) := by omega
        have qP : (P : Int) ≤ 64 := by omega
        have qs : (a : Int) + 1 + (P : Int) ≤ (N0 : Int) := by omega
        have qn0 : (N0 : Int) ≤ 8192 := by have := HL.out; have := HN0.out; omega
        have hR : s < wr.heap.size := hp0.blk.lt
        have hlt1 : (ad2.add k).block < wr.heap.size := by rw [add_block]; exact Nat.lt_of_lt_of_le hb2 hB.out.size
        have hlt2 : (ad.add a).block < wr.heap.size := by rw [add_block]; exact hb3
        have HC0 := Lib.hid (And.intro hp0 (And.intro hc (And.intro hA (And.intro hb2 hb3))))
        clear ha hab hat hag hun hsz hsh hroom hpe HWn hP64 hB1024 hsz2 hx hP' hn' hxx haN ham hkl hp0
        go_wp2_with fail
        refine rw7 _ _ _ s a k N A (some ad2) N0 c cl x (P : Int) (n : Int) hR ad ad2 hA rfl d0 hlt1 hlt2 hc q0 q1 q2 q6 hcw HUn rfl rfl rfl rfl ?_
        intro vals w3 hG hbx h7
        obtain ⟨hk3, ek, hk3B, hbk⟩ := hbx
        unfold IsV at h7
        simp only [putO, Act.put, List.setIfInBounds_toArray, List.set_cons_zero, List.set_cons_succ, ek, h7]
        have H3 := Lib.hid (And.intro hbk (And.intro (hB.out.trans (hG.mono hB.out.size)) hG))
        clear hG h7 ek hbk hc hcw d0 hlt1 hlt2 hR HUn
        go_wp2_with fail
        go_loopw [8] (fun i W => ∃ j : Nat, i = .int .i64 j ∧ j ≤ P ∧ Hid ((List.range j).all (ptrN ws l a) = true) ∧ Hid (Below w3.heap.size w3 W)) (fun i _ => P - (Go.RowKit.intOf i).toNat)
        case atStart => exact ⟨0, rfl, Nat.zero_le _, Lib.hid rfl, Lib.hid (Below.refl _ _)⟩
        case round =>
          clear hlt hk
          obtain ⟨j, rfl, hj, hA2, hB3⟩ := hrel
          have hk4 := H3.out.1.below hB3.out H3.out.1.lt
          obtain ⟨k0, k1, k2, k3⟩ := hk4.four
          have hklt := hk4.lt
          have hgr := H3.out.2.2.trans (hB3.out.mono H3.out.2.2.size)
          have hp0 := HC0.out.1.below hgr
          obtain ⟨d0, _⟩ := hp0.four
          rw [← HN0.out] at d0
          have hRs : s < wr.heap.size := hp0.blk.lt
          have HBw := Lib.hid (H3.out.2.1.trans (hB3.out.mono H3.out.2.1.size))
          have hRl := Lib.hid ((HRd.out.below HBw.out).more HBw.out.size)
          have hcc : wr.cell? (ad2.add k) = some (.int .i64 (a : Int)) := (hgr.cell (p := ad2.add k) (by rw [add_block]; have := HC0.out.2.2.2.1; have := hB.out.size; omega)).trans HC0.out.2.1
          have hlt1 : (ad2.add k).block < wr.heap.size := by rw [add_block]; have := HC0.out.2.2.2.1; have := HBw.out.size; omega
          by_cases hjt : j < P
          · have hq : a + 1 + j < N0 := by omega
            obtain ⟨q, hqe⟩ : ∃ q, q = a + 1 + j := ⟨_, rfl⟩
            have hqw : q < ws.length := by rw [← HN0.out, hqe]; exact hq
            obtain ⟨ad', hA', hb4, hcy⟩ := hp0.rd q hqw
            have hadd : ad' = ad := by have := HC0.out.2.2.1; rw [hA'] at this; injection this
            subst hadd
            obtain ⟨y, hy⟩ : ∃ y, y = ws.getD q 0#64 := ⟨_, rfl⟩
            have hxx : u64v ws[q] = .int .u64 (U64 y) := by rw [hy]; simp [List.getD, hqw, u64v]
            rw [hxx] at hcy
            have hlt2 : (ad'.add q).block < wr.heap.size := by rw [add_block]; exact hb4
            have hpn : ptrN ws l a j = decide (y.toNat = 0 ∨ (1 ≤ y.toNat ∧ y.toNat - 1 ∈ l)) := by unfold ptrN; rw [hy, hqe]
            obtain ⟨r, hr⟩ : ∃ r, r = ptrN ws l a j := ⟨_, rfl⟩
            have HRg := Lib.hid (show (List.range (j + 1)).all (ptrN ws l a) = r from by rw [List.range_succ, List.all_append, hA2.out, hr]; simp)
            have HNo := Lib.hid (show r = false → R = 2 from fun h => HWp.out j hjt (by rw [← hr]; exact h))
            have HPc := Lib.hid (fun W (hb : Below wr.heap.size wr W) => (hr.trans hpn) ▸ HPt.out W ((hRl.out.below hb).more hb.size) y)
            have e7 : (a : Int) + 1 + (j : Int) = (q : Int) := by omega
            have e8 : (0 : Int) ≤ (q : Int) := by omega
            have e6 : (q : Int) < (N0 : Int) := by omega
            have e5 : (0 : Int) ≤ (j : Int) := by omega
            have e4 : (j : Int) ≤ 100 := by omega
            have e3 : (j : Int) < (P : Int) := by omega
            have e9 : (a : Int) ≤ 100000 := by omega
            clear hy hpn hxx hqw hqe hq hp0 hA2 hr hk4 hgr
            go_wp2_with fail
            refine rw11 _ _ _ s a j q k N A (some ad2) N0 c cl 0 0 0 0 r y hRs ad' ad2 hA rfl d0 hlt1 hlt2 hcc q0 q1 q2 e9 e4 e5 e6 e7 e8 hcy HPc rfl rfl rfl rfl rfl ?_
            intro vals2 w5 hG5 h57
            unfold IsV at h57
            simp only [putD, Act.put, List.setIfInBounds_toArray, List.set_cons_zero, List.set_cons_succ, h57]
            have HB5 := Lib.hid (hB3.out.trans (hG5.mono hB3.out.size))
            clear hG5 h57 k0 k1 k2 k3 d0 hcc hcy hRs hlt1 hlt2
            cases r with
            | false =>
              obtain rfl : R = 2 := HNo.out rfl
              go_wp2_with fail
              go_ret
              exact ⟨rfl, HB2.out.trans ((H3.out.2.1.trans (HB5.out.mono H3.out.2.1.size)).mono HB2.out.size)⟩
            | true =>
              have HX := Lib.hid HRg.out
              clear HNo HRg HPc
              go_wp2_with fail
              go_roundw
              case rel => first | exact ⟨j + 1, by go_num, by omega, HX, HB5⟩ | ((repeat apply Exists.intro); refine ⟨?_, rfl⟩; exact ⟨j + 1, by go_num, by omega, HX, HB5⟩)
              case measure => simp [Go.RowKit.intOf]; omega
          · have hjP : P = j := by omega
            subst hjP
            have HPd2 := Lib.hid (fun W (hb : Below wr.heap.size wr W) => HPd.out W (hp0.below hb))
            obtain ⟨pd, hpd⟩ : ∃ pd, pd = padN ws a := ⟨_, rfl⟩
            rw [← hpd] at HPd2
            have HWv := Lib.hid (show wellN ws l a = pd from by rw [HWn2.out.1, hA2.out, hpd]; rfl)
            have HWq2 := Lib.hid (show pd = false → R = 2 from fun h => HWq.out (by rw [← hpd]; exact h))
            clear hpd hp0 hA2 hjt hj hk4 hgr d0
            go_wp2_with fail
            refine rw13 _ _ _ s a k N hk3 (some ad2) cl (P : Int) (n : Int) (!pd) ad2 rfl hlt1 hcc q0 q1 hklt k0 k1 k2 k3 HPd2 rfl rfl rfl rfl rfl ?_
            intro vals2 w5 hG5 h64
            unfold IsV at h64
            simp only [putD, Act.put, List.setIfInBounds_toArray, List.set_cons_zero, List.set_cons_succ, h64]
            have HB5 := Lib.hid (HBw.out.trans (hG5.mono HBw.out.size))
            clear hG5 h64 k0 k1 k2 k3 hcc hRs hlt1 hklt
            cases pd with
            | false =>
              obtain rfl : R = 2 := HWq2.out rfl
              go_wp2_with fail
              go_ret
              exact ⟨rfl, HB2.out.trans (HB5.out.mono HB2.out.size)⟩
            | true =>
              have HX := Lib.hid (show (l.take (k + 1)).all (wellN ws l) = true from by rw [HTk.out, List.all_append, hW.out]; simp [HWv.out])
              clear HWq2 HPd2 HWv
              go_wp2_with fail
              go_roundw
              case rel => first | exact ⟨k + 1, by go_num, by omega, HX, HB5⟩ | ((repeat apply Exists.intro); refine ⟨?_, rfl⟩; exact ⟨k + 1, by go_num, by omega, HX, HB5⟩)
              case measure => simp [Go.RowKit.intOf]; omega
      · have hkN : N = k := by omega
        have hR0 : R = 0 := by
          rw [HRl.out]
          rw [if_pos]
          have := hW.out
          rwa [← hkN, HN.out, List.take_length] at this
        subst hkN
        subst hR0
        clear hW hlt hk
        go_wp2_with fail
        go_ret
        exact ⟨rfl, HB2.out.trans (hB.out.mono HB2.out.size)⟩
end Go.Proofs.YtfodefgihicafaaDoor
/- loamlaw16.To: words as a space, or none. Conditions: lengths. -/
namespace Go.Proofs.YtfodefgihicafaaDoor
set_option linter.unusedVariables false
set_option linter.unusedSimpArgs false
open Go.RowKit
set_option maxHeartbeats 1000000
set_option maxRecDepth 100000
/-- Is there no such space? -/
def toN (ws : List (BitVec 64)) (b t e : Int) : Prop := (b < 0 ∨ (¬ b < 0 ∧ t < b) ∨ (¬ b < 0 ∧ ¬ t < b ∧ e < t) ∨ (¬ b < 0 ∧ ¬ t < b ∧ ¬ e < t ∧ (ws.length : Int) < e))
theorem to_out (w : World) (A : Option Addr) (ws : List (BitVec 64)) (c : Nat) (hr : Rd u64v w w.heap.size A ws) (hl : ws.length ≤ 8192) (b t e : Int) (ho : toN ws b t e) : Calls Tryd.prog 8 #[.slice A ws.length c, .int .i64 b, .int .i64 t, .int .i64 e] w (RetP (.pointer none) w) := by
  have HMem := Lib.hid (mem15_c w A c ws hr hl)
  have HOf := Lib.hid (fun W B g v (h : MemAt W B g v ws) => sof_out W (.pointer (some ⟨g, 0, none⟩)) b t e (bare_out W B g v ws b t e h ho))
  obtain ⟨N, hN⟩ : ∃ N, N = ws.length := ⟨_, rfl⟩
  rw [← hN] at HMem ⊢
  clear hr hl hN ho
  go_enter Tryd.func8, Tryd.ntmps8
  go_wp2_with fail
  refine Calls.mono HMem.out ?_
  rintro r w2 ⟨g, v, rfl, h2, b2⟩
  have HM2 := Lib.hid (HOf.out w2 _ g v h2)
  have HB2 := Lib.hid b2
  clear h2 b2
  go_wp2_with fail
  refine Calls.mono HM2.out ?_
  rintro r w3 ⟨rfl, rfl⟩
  go_wp2_with fail
  go_ret
  exact ⟨rfl, HB2.out⟩
theorem to_none (w : World) (A : Option Addr) (ws : List (BitVec 64)) (c : Nat) (hr : Rd u64v w w.heap.size A ws) (hl : ws.length ≤ 8192) (b t e : Nat) (hbt : b ≤ t) (hte : t ≤ e) (hel : e ≤ ws.length) (ho : objF ws t (t + 1) b = none) : Calls Tryd.prog 8 #[.slice A ws.length c, .int .i64 b, .int .i64 t, .int .i64 e] w (RetP (.pointer none) w) := by
  have HMem := Lib.hid (mem15_c w A c ws hr hl)
  have HOf := Lib.hid (fun W B g v (h : MemAt W B g v ws) => sof_none W B g v ws b t e h hbt hte hel (by omega) ho)
  obtain ⟨N, hN⟩ : ∃ N, N = ws.length := ⟨_, rfl⟩
  rw [← hN] at HMem ⊢
  clear hr hl hN ho hbt hte hel
  go_enter Tryd.func8, Tryd.ntmps8
  go_wp2_with fail
  refine Calls.mono HMem.out ?_
  rintro r w2 ⟨g, v, rfl, h2, b2⟩
  have HM2 := Lib.hid (HOf.out w2 _ g v h2)
  have HB2 := Lib.hid b2
  clear h2 b2
  go_wp2_with fail
  refine Calls.mono HM2.out ?_
  rintro r w3 ⟨rfl, b3⟩
  have HB3 := Lib.hid (HB2.out.trans (b3.mono HB2.out.size))
  clear b3
  go_wp2_with fail
  go_ret
  exact ⟨rfl, HB3.out⟩
theorem to_some (w : World) (A : Option Addr) (ws : List (BitVec 64)) (c : Nat) (hr : Rd u64v w w.heap.size A ws) (hl : ws.length ≤ 8192) (b t e : Nat) (hbt : b ≤ t) (hte : t ≤ e) (hel : e ≤ ws.length) (l : List Nat) (ho : objF ws t (t + 1) b = some l) : Calls Tryd.prog 8 #[.slice A ws.length c, .int .i64 b, .int .i64 t, .int .i64 e] w fun r w' => ∃ s g v, r = .returned (.pointer (some ⟨s, 0, none⟩)) ∧ SpAt w' w.heap.size s g v ws b t e ∧ Below w.heap.size w w' := by
  have HMem := Lib.hid (mem15_c w A c ws hr hl)
  have HOf := Lib.hid (fun W B g v (h : MemAt W B g v ws) => sof_some W B g v ws b t e h hbt hte hel (by omega) l ho)
  obtain ⟨N, hN⟩ : ∃ N, N = ws.length := ⟨_, rfl⟩
  rw [← hN] at HMem ⊢
  clear hr hl hN ho hbt hte hel
  go_enter Tryd.func8, Tryd.ntmps8
  go_wp2_with fail
  refine Calls.mono HMem.out ?_
  rintro r w2 ⟨g, v, rfl, h2, b2⟩
  have HM2 := Lib.hid (HOf.out w2 _ g v h2)
  have HB2 := Lib.hid b2
  clear h2 b2
  go_wp2_with fail
  refine Calls.mono HM2.out ?_
  rintro r w3 ⟨s, rfl, h3, b3⟩
  have HB3 := Lib.hid (And.intro h3 (HB2.out.trans (b3.mono HB2.out.size)))
  clear b3 h3
  go_wp2_with fail
  go_ret
  exact ⟨s, g, v, rfl, HB3.out.1, HB3.out.2⟩
/-- What To makes of words. -/
def toP (ws : List (BitVec 64)) (b t e : Int) (w : World) (r : Ending) (w' : World) : Prop :=
  (r = .returned (.pointer none) ∧ Below w.heap.size w w') ∨ ∃ (B T E : Nat) (s g : Nat) (v : Value) (l : List Nat), b = (B : Int) ∧ t = (T : Int) ∧ e = (E : Int) ∧ B ≤ T ∧ T ≤ E ∧ E ≤ ws.length ∧ objF ws T (T + 1) B = some l ∧ r = .returned (.pointer (some ⟨s, 0, none⟩)) ∧ SpAt w' w.heap.size s g v ws B T E ∧ Below w.heap.size w w'
theorem to_c (w : World) (A : Option Addr) (ws : List (BitVec 64)) (c : Nat) (hr : Rd u64v w w.heap.size A ws) (hl : ws.length ≤ 8192) (b t e : Int) : Calls Tryd.prog 8 #[.slice A ws.length c, .int .i64 b, .int .i64 t, .int .i64 e] w (toP ws b t e w) := by
  by_cases ho : toN ws b t e
  · exact (to_out w A ws c hr hl b t e ho).mono fun r w' h => .inl h
  · unfold toN at ho
    obtain ⟨B, rfl⟩ : ∃ k : Nat, b = (k : Int) := ⟨b.toNat, by omega⟩
    obtain ⟨T, rfl⟩ : ∃ k : Nat, t = (k : Int) := ⟨t.toNat, by omega⟩
    obtain ⟨E, rfl⟩ : ∃ k : Nat, e = (k : Int) := ⟨e.toNat, by omega⟩
    cases h : objF ws T (T + 1) B with
    | none => exact (to_none w A ws c hr hl B T E (by omega) (by omega) (by omega) h).mono fun r w' h => .inl h
    | some l => exact (to_some w A ws c hr hl B T E (by omega) (by omega) (by omega) l h).mono fun r w' ⟨s, g, v, h1, h2, h3⟩ => .inr ⟨B, T, E, s, g, v, l, rfl, rfl, rfl, by omega, by omega, by omega, h, h1, h2, h3⟩
end Go.Proofs.YtfodefgihicafaaDoor
/- How an argument of type []uint64 is opened. No conditions. -/
namespace Go.Proofs.YtfodefgihicafaaDoor
set_option linter.unusedVariables false
set_option linter.unusedSimpArgs false
open Go.ChangeShapes Go.WideShapes Go.ChangeAt Go.RowKit
theorem open_words {H : Type} {enc : TypeId × Value → H} {P : Program} {W : World} {base : Nat} {sp : Nat → Bool} {hd : Bool} {r : Reach} {b0 : Nat} {t e : TypeId} {v : Value} {d : DataW H} {p : List MemPlace}
    (ht : P.underlying t = some (.slice e)) (he : P.underlying e = some (.int .u64)) (hc : P.cellsOf e = 1)
    (hv : Value.okWide P W r b0 t v) (h : DataW.Trod enc P W base sp hd t v d p) :
    ∃ (A : Option Addr) (bs : List (BitVec 64)) (c : Nat), v = .slice A bs.length c ∧ bs.length ≤ c ∧ c ≤ maxLen ∧ Rd u64v W W.heap.size A bs := by
  obtain ⟨a0, len, cap, rfl⟩ := okWide_slice ht hv
  obtain ⟨fuel, hf⟩ := h
  rcases open_ints ht he hc hf with ⟨hcs, _⟩ | ⟨x, l, c, zs, hcs, _, hl, hm, hz, _, hcell, hwz⟩
  · simp [Value.cells] at hcs
    obtain ⟨rfl, rfl, rfl⟩ := hcs
    exact ⟨none, [], 0, rfl, Nat.le_refl _, by simp [maxLen], Rd.nil⟩
  · simp [Value.cells] at hcs
    obtain ⟨rfl, rfl, rfl⟩ := hcs
    have hlen : len ≤ zs.length := by rw [hz]; split <;> omega
    refine ⟨some x, (zs.take len).map (BitVec.ofInt 64), cap, by simp; omega, by simp; omega, hm, fun j hj => ?_⟩
    have hj' : j < len := by simp at hj; omega
    have hc1 := hcell j (by omega)
    have hb := cell_lt hc1
    rw [add_block] at hb
    refine ⟨x, rfl, hb, ?_⟩
    rw [hc1]
    have hw := hwz (zs.getD j 0) (by rw [List.getD_eq_getElem?_getD, List.getElem?_eq_getElem (by omega)]; exact List.getElem_mem _)
    rw [wfu64 hw]
    have e : zs.getD j 0 = zs[j]'(by omega) := by rw [List.getD_eq_getElem?_getD, List.getElem?_eq_getElem (by omega)]; rfl
    rw [e]
    simp [u64v]
end Go.Proofs.YtfodefgihicafaaDoor
