/- Texts joined: ObN RcN CyJ RcO CyK ObO InZ OpenW. -/
import Derived.Test.YtlibcpboooehlaaYc5
import Derived.Deep.LoopGhost
import Derived.Test.YtlibcpboooehlaaObD
import Derived.Test.YtlibcpboooehlaaSpH
import Derived.Test.YtlibcpboooehlaaFrame
import Derived.Test.YtlibcpboooehlaaMmA
/- The reference's Well. Conditions: lengths. -/
namespace Go.Proofs.Ytlibcpboooehlaa
set_option linter.unusedVariables false
set_option linter.unusedSimpArgs false
open Go.RowKit Go.Maps
set_option maxHeartbeats 1000000
set_option maxRecDepth 100000
theorem rw7 (Q : Exit → Act → World → Prop) (a0 : Act) (w : World) (R a i N : Nat) (A B : Option Addr) (L c cl : Nat) (x : BitVec 64) (P n : Int) (hR : R < w.heap.size) (ad ad2 : Addr) (hA : A = some ad) (hB : B = some ad2) (c0 : w.cell? ⟨R, 0, none⟩ = some (.slice A L c)) (hlt : (ad2.add i).block < w.heap.size) (hlt2 : (ad.add a).block < w.heap.size) (cl1 : w.cell? (ad2.add i) = some (.int .i64 (a : Int))) (q0 : (0 : Int) ≤ (i : Int)) (q1 : (i : Int) < (N : Int)) (q2 : (0 : Int) ≤ (a : Int)) (q6 : (a : Int) < (L : Int)) (cw : w.cell? (ad.add a) = some (.int .u64 (U64 x))) (hp : Hid (∀ W, Calls Try.prog 60 #[.int .u64 (U64 x)] W (RetP (.tuple #[.agg #[.int .i64 P, .int .i64 n, .bool false, .int .i64 0], .int .i64 0]) W))) (hsz : a0.tmps.size = 65) (sl0 : a0.tmps.getD 0 undef = .pointer (some ⟨R, 0, none⟩)) (sl3 : a0.tmps.getD 3 undef = .slice B N cl) (sl5 : a0.tmps.getD 5 undef = .int .i64 (i : Int))
    (fin : ∀ (vals : Nat → Value) (w1 : World), Below w.heap.size w w1 → (BoxC 107 (#[.int .i64 P, .int .i64 n, .bool false, .int .i64 0]) w.heap.size) (vals 14) w1 → (IsV (.int .i64 0)) (vals 16) w1 → Q .normal (putO vals [some 23, some 24, some 25, some 26, some 27, some 28, some 29, some 30, some 31, some 32, some 33, some 22, some 34, some 35, some 6, none, some 7] 0 a0) w1) :
    (Code.region 7 (regIn Try.f30 7) true).wp Try.prog Q a0 w := by
  have hGs : ∀ (j : Nat) (v : Value) (w3 : World), (srcOf [(15, 14)] j = j → (([IsV (.pointer (some ⟨R, 0, none⟩)), IsV (.pointer (some ⟨R, 0, none⟩)), IsV (.pointer (some ⟨R, 0, none⟩)), IsV (.slice A L c), IsV (.slice B N cl), IsV (.int .i64 (i : Int)), IsV (.pointer (some (ad2.add i))), IsV (.int .i64 (a : Int)), IsV (.pointer (some (ad.add a))), IsV (.int .u64 (U64 x)), IsV (.tuple #[.agg #[.int .i64 P, .int .i64 n, .bool false, .int .i64 0], .int .i64 0]), IsV (.tuple #[.agg #[.int .i64 P, .int .i64 n, .bool false, .int .i64 0], .int .i64 0]), IsV (.agg #[.int .i64 P, .int .i64 n, .bool false, .int .i64 0]), IsV (.int .i64 0), BoxV 107 4 w.heap.size, BoxC 107 (#[.int .i64 P, .int .i64 n, .bool false, .int .i64 0]) w.heap.size, IsV (.int .i64 0)] : List (Value → World → Prop)).getD j fun _ _ => True) v w3) → (([IsV (.pointer (some ⟨R, 0, none⟩)), IsV (.pointer (some ⟨R, 0, none⟩)), IsV (.pointer (some ⟨R, 0, none⟩)), IsV (.slice A L c), IsV (.slice B N cl), IsV (.int .i64 (i : Int)), IsV (.pointer (some (ad2.add i))), IsV (.int .i64 (a : Int)), IsV (.pointer (some (ad.add a))), IsV (.int .u64 (U64 x)), IsV (.tuple #[.agg #[.int .i64 P, .int .i64 n, .bool false, .int .i64 0], .int .i64 0]), IsV (.tuple #[.agg #[.int .i64 P, .int .i64 n, .bool false, .int .i64 0], .int .i64 0]), IsV (.agg #[.int .i64 P, .int .i64 n, .bool false, .int .i64 0]), IsV (.int .i64 0), BoxV 107 4 w.heap.size, fun _ _ => True, IsV (.int .i64 0)] : List (Value → World → Prop)).getD j fun _ _ => True) v w3 := by
    intro j v w3 h
    match j, h with
    | 0, h => exact h rfl
    | 1, h => exact h rfl
    | 2, h => exact h rfl
    | 3, h => exact h rfl
    | 4, h => exact h rfl
    | 5, h => exact h rfl
    | 6, h => exact h rfl
    | 7, h => exact h rfl
    | 8, h => exact h rfl
    | 9, h => exact h rfl
    | 10, h => exact h rfl
    | 11, h => exact h rfl
    | 12, h => exact h rfl
    | 13, h => exact h rfl
    | 14, h => exact h rfl
    | 15, h => exact trivial
    | 16, h => exact h rfl
    | _ + 17, _ => exact trivial
  refine region_byG [IsV (.pointer (some ⟨R, 0, none⟩)),
    IsV (.pointer (some ⟨R, 0, none⟩)),
    IsV (.pointer (some ⟨R, 0, none⟩)),
    IsV (.slice A L c),
    IsV (.slice B N cl),
    IsV (.int .i64 (i : Int)),
    IsV (.pointer (some (ad2.add i))),
    IsV (.int .i64 (a : Int)),
    IsV (.pointer (some (ad.add a))),
    IsV (.int .u64 (U64 x)),
    IsV (.tuple #[.agg #[.int .i64 P, .int .i64 n, .bool false, .int .i64 0], .int .i64 0]),
    IsV (.tuple #[.agg #[.int .i64 P, .int .i64 n, .bool false, .int .i64 0], .int .i64 0]),
    IsV (.agg #[.int .i64 P, .int .i64 n, .bool false, .int .i64 0]),
    IsV (.int .i64 0),
    BoxV 107 4 w.heap.size,
    BoxC 107 (#[.int .i64 P, .int .i64 n, .bool false, .int .i64 0]) w.heap.size,
    IsV (.int .i64 0)] [(15, StD 107 4 w.heap.size)] [(15, 14)]
    [some 23, some 24, some 25, some 26, some 27, some 28, some 29, some 30, some 31, some 32, some 33, some 22, some 34, some 35, some 6, none, some 7] (by kernel_rfl) (by rw [hsz]; kernel_rfl) (by kernel_rfl) (by kernel_rfl) ?_ ?_ ?_ ?_
  · intro f hf
    simp only [List.mem_cons, List.not_mem_nil, or_false] at hf
    rcases hf with rfl | rfl | rfl | rfl | rfl | rfl | rfl | rfl | rfl | rfl | rfl | rfl | rfl | rfl | rfl | rfl | rfl <;> intro v a b h g <;> first | exact IsV.mono h | exact BoxV.mono h g | exact BoxC.mono h g
  · intro p hp
    simp only [List.mem_cons, List.not_mem_nil, or_false] at hp
    rcases hp with rfl
    · refine ⟨fun a b h1 h2 => StD.below (Nat.le_refl _) h1 h1.size h2, ?_⟩
      intro f hf
      simp only [List.eraseIdx_cons_succ, List.eraseIdx_cons_zero, List.mem_cons, List.not_mem_nil, or_false] at hf
      rcases hf with rfl | rfl | rfl | rfl | rfl | rfl | rfl | rfl | rfl | rfl | rfl | rfl | rfl | rfl | rfl | rfl <;> intro v a b h g <;> first | exact IsV.st h g | exact BoxV.st h g | exact BoxC.st (by decide) h g
  · refine ⟨?_, ?_, ?_, ?_, ?_, ?_, ?_, ?_, ?_, ?_, ?_, ?_, ?_, ?_, ?_, ?_, ?_, trivial⟩
    · refine OwesG.mk2 (D := Gw) (F' := fun j => ([IsV (.pointer (some ⟨R, 0, none⟩)), IsV (.pointer (some ⟨R, 0, none⟩)), IsV (.pointer (some ⟨R, 0, none⟩)), IsV (.slice A L c), IsV (.slice B N cl), IsV (.int .i64 (i : Int)), IsV (.pointer (some (ad2.add i))), IsV (.int .i64 (a : Int)), IsV (.pointer (some (ad.add a))), IsV (.int .u64 (U64 x)), IsV (.tuple #[.agg #[.int .i64 P, .int .i64 n, .bool false, .int .i64 0], .int .i64 0]), IsV (.tuple #[.agg #[.int .i64 P, .int .i64 n, .bool false, .int .i64 0], .int .i64 0]), IsV (.agg #[.int .i64 P, .int .i64 n, .bool false, .int .i64 0]), IsV (.int .i64 0), BoxV 107 4 w.heap.size, fun _ _ => True, IsV (.int .i64 0)] : List (Value → World → Prop)).getD j fun _ _ => True) rfl hGs (fun v w h => h) ?_
      exact owes_mvD gw_self 0 (by kernel_rfl) (by kernel_rfl) (by kernel_rfl) sl0 (fun _ => rfl)
    · refine OwesG.mk2 (D := Gw) (F' := fun j => ([IsV (.pointer (some ⟨R, 0, none⟩)), IsV (.pointer (some ⟨R, 0, none⟩)), IsV (.pointer (some ⟨R, 0, none⟩)), IsV (.slice A L c), IsV (.slice B N cl), IsV (.int .i64 (i : Int)), IsV (.pointer (some (ad2.add i))), IsV (.int .i64 (a : Int)), IsV (.pointer (some (ad.add a))), IsV (.int .u64 (U64 x)), IsV (.tuple #[.agg #[.int .i64 P, .int .i64 n, .bool false, .int .i64 0], .int .i64 0]), IsV (.tuple #[.agg #[.int .i64 P, .int .i64 n, .bool false, .int .i64 0], .int .i64 0]), IsV (.agg #[.int .i64 P, .int .i64 n, .bool false, .int .i64 0]), IsV (.int .i64 0), BoxV 107 4 w.heap.size, fun _ _ => True, IsV (.int .i64 0)] : List (Value → World → Prop)).getD j fun _ _ => True) rfl hGs (fun v w h => h) ?_
      refine owes_vD (Go.Op.nilCheck (Go.Operand.tmp 23)) 0 [0] (by kernel_rfl) (by kernel_rfl) (by kernel_rfl) rfl fun vals w1 ρ hG hF hρ hcst hfun => ?_
      have e23 : ρ (.tmp 23) = .pointer (some ⟨R, 0, none⟩) := ((hρ 23).trans (slotJ [0] (by rw [hsz]; decide) (by kernel_rfl))).trans (hF 0 (by decide))
      clear hρ hF hGs hcst hfun sl0 sl3 sl5 fin
      exact opv_val (by go_simp <;> rfl) ⟨gw_self _, rfl⟩
    · refine OwesG.mk2 (D := Gw) (F' := fun j => ([IsV (.pointer (some ⟨R, 0, none⟩)), IsV (.pointer (some ⟨R, 0, none⟩)), IsV (.pointer (some ⟨R, 0, none⟩)), IsV (.slice A L c), IsV (.slice B N cl), IsV (.int .i64 (i : Int)), IsV (.pointer (some (ad2.add i))), IsV (.int .i64 (a : Int)), IsV (.pointer (some (ad.add a))), IsV (.int .u64 (U64 x)), IsV (.tuple #[.agg #[.int .i64 P, .int .i64 n, .bool false, .int .i64 0], .int .i64 0]), IsV (.tuple #[.agg #[.int .i64 P, .int .i64 n, .bool false, .int .i64 0], .int .i64 0]), IsV (.agg #[.int .i64 P, .int .i64 n, .bool false, .int .i64 0]), IsV (.int .i64 0), BoxV 107 4 w.heap.size, fun _ _ => True, IsV (.int .i64 0)] : List (Value → World → Prop)).getD j fun _ _ => True) rfl hGs (fun v w h => h) ?_
      refine owes_vD (Go.Op.fieldAddr 29 (Go.Operand.tmp 24) 0) 0 [1] (by kernel_rfl) (by kernel_rfl) (by kernel_rfl) rfl fun vals w1 ρ hG hF hρ hcst hfun => ?_
      have e24 : ρ (.tmp 24) = .pointer (some ⟨R, 0, none⟩) := ((hρ 24).trans (slotJ [1] (by rw [hsz]; decide) (by kernel_rfl))).trans (hF 1 (by decide))
      clear hρ hF hGs hcst hfun sl0 sl3 sl5 fin
      exact opv_val (by go_simp <;> rfl) ⟨gw_self _, rfl⟩
    · refine OwesG.mk2 (D := Gw) (F' := fun j => ([IsV (.pointer (some ⟨R, 0, none⟩)), IsV (.pointer (some ⟨R, 0, none⟩)), IsV (.pointer (some ⟨R, 0, none⟩)), IsV (.slice A L c), IsV (.slice B N cl), IsV (.int .i64 (i : Int)), IsV (.pointer (some (ad2.add i))), IsV (.int .i64 (a : Int)), IsV (.pointer (some (ad.add a))), IsV (.int .u64 (U64 x)), IsV (.tuple #[.agg #[.int .i64 P, .int .i64 n, .bool false, .int .i64 0], .int .i64 0]), IsV (.tuple #[.agg #[.int .i64 P, .int .i64 n, .bool false, .int .i64 0], .int .i64 0]), IsV (.agg #[.int .i64 P, .int .i64 n, .bool false, .int .i64 0]), IsV (.int .i64 0), BoxV 107 4 w.heap.size, fun _ _ => True, IsV (.int .i64 0)] : List (Value → World → Prop)).getD j fun _ _ => True) rfl hGs (fun v w h => h) ?_
      refine owes_vD (Go.Op.load 22 (Go.Operand.tmp 25)) 22 [2] (by kernel_rfl) (by kernel_rfl) (by kernel_rfl) rfl fun vals w1 ρ hG hF hρ hcst hfun => ?_
      have e25 : ρ (.tmp 25) = .pointer (some ⟨R, 0, none⟩) := ((hρ 25).trans (slotJ [2] (by rw [hsz]; decide) (by kernel_rfl))).trans (hF 2 (by decide))
      have k := (hG.cell (p := ⟨R, 0, none⟩) hR).trans c0
      clear hρ hF hGs hcst hfun sl0 sl3 sl5 fin
      exact opv_val (by go_simp <;> rfl) ⟨gw_self _, rfl⟩
    · refine OwesG.mk2 (D := Gw) (F' := fun j => ([IsV (.pointer (some ⟨R, 0, none⟩)), IsV (.pointer (some ⟨R, 0, none⟩)), IsV (.pointer (some ⟨R, 0, none⟩)), IsV (.slice A L c), IsV (.slice B N cl), IsV (.int .i64 (i : Int)), IsV (.pointer (some (ad2.add i))), IsV (.int .i64 (a : Int)), IsV (.pointer (some (ad.add a))), IsV (.int .u64 (U64 x)), IsV (.tuple #[.agg #[.int .i64 P, .int .i64 n, .bool false, .int .i64 0], .int .i64 0]), IsV (.tuple #[.agg #[.int .i64 P, .int .i64 n, .bool false, .int .i64 0], .int .i64 0]), IsV (.agg #[.int .i64 P, .int .i64 n, .bool false, .int .i64 0]), IsV (.int .i64 0), BoxV 107 4 w.heap.size, fun _ _ => True, IsV (.int .i64 0)] : List (Value → World → Prop)).getD j fun _ _ => True) rfl hGs (fun v w h => h) ?_
      exact owes_mvD gw_self 3 (by kernel_rfl) (by kernel_rfl) (by kernel_rfl) sl3 (fun _ => rfl)
    · refine OwesG.mk2 (D := Gw) (F' := fun j => ([IsV (.pointer (some ⟨R, 0, none⟩)), IsV (.pointer (some ⟨R, 0, none⟩)), IsV (.pointer (some ⟨R, 0, none⟩)), IsV (.slice A L c), IsV (.slice B N cl), IsV (.int .i64 (i : Int)), IsV (.pointer (some (ad2.add i))), IsV (.int .i64 (a : Int)), IsV (.pointer (some (ad.add a))), IsV (.int .u64 (U64 x)), IsV (.tuple #[.agg #[.int .i64 P, .int .i64 n, .bool false, .int .i64 0], .int .i64 0]), IsV (.tuple #[.agg #[.int .i64 P, .int .i64 n, .bool false, .int .i64 0], .int .i64 0]), IsV (.agg #[.int .i64 P, .int .i64 n, .bool false, .int .i64 0]), IsV (.int .i64 0), BoxV 107 4 w.heap.size, fun _ _ => True, IsV (.int .i64 0)] : List (Value → World → Prop)).getD j fun _ _ => True) rfl hGs (fun v w h => h) ?_
      exact owes_mvD gw_self 5 (by kernel_rfl) (by kernel_rfl) (by kernel_rfl) sl5 (fun _ => rfl)
    · refine OwesG.mk2 (D := Gw) (F' := fun j => ([IsV (.pointer (some ⟨R, 0, none⟩)), IsV (.pointer (some ⟨R, 0, none⟩)), IsV (.pointer (some ⟨R, 0, none⟩)), IsV (.slice A L c), IsV (.slice B N cl), IsV (.int .i64 (i : Int)), IsV (.pointer (some (ad2.add i))), IsV (.int .i64 (a : Int)), IsV (.pointer (some (ad.add a))), IsV (.int .u64 (U64 x)), IsV (.tuple #[.agg #[.int .i64 P, .int .i64 n, .bool false, .int .i64 0], .int .i64 0]), IsV (.tuple #[.agg #[.int .i64 P, .int .i64 n, .bool false, .int .i64 0], .int .i64 0]), IsV (.agg #[.int .i64 P, .int .i64 n, .bool false, .int .i64 0]), IsV (.int .i64 0), BoxV 107 4 w.heap.size, fun _ _ => True, IsV (.int .i64 0)] : List (Value → World → Prop)).getD j fun _ _ => True) rfl hGs (fun v w h => h) ?_
      refine owes_vD (Go.Op.indexAddr 23 (Go.Operand.tmp 27) (Go.Operand.tmp 28)) 0 [4, 5] (by kernel_rfl) (by kernel_rfl) (by kernel_rfl) rfl fun vals w1 ρ hG hF hρ hcst hfun => ?_
      have e27 : ρ (.tmp 27) = .slice B N cl := ((hρ 27).trans (slotJ [4, 5] (by rw [hsz]; decide) (by kernel_rfl))).trans (hF 4 (by decide))
      have e28 : ρ (.tmp 28) = .int .i64 (i : Int) := ((hρ 28).trans (slotJ [4, 5] (by rw [hsz]; decide) (by kernel_rfl))).trans (hF 5 (by decide))
      subst hB
      clear hρ hF hGs hcst hfun sl0 sl3 sl5 fin
      exact opv_val (by go_simp <;> rfl) ⟨gw_self _, rfl⟩
    · refine OwesG.mk2 (D := Gw) (F' := fun j => ([IsV (.pointer (some ⟨R, 0, none⟩)), IsV (.pointer (some ⟨R, 0, none⟩)), IsV (.pointer (some ⟨R, 0, none⟩)), IsV (.slice A L c), IsV (.slice B N cl), IsV (.int .i64 (i : Int)), IsV (.pointer (some (ad2.add i))), IsV (.int .i64 (a : Int)), IsV (.pointer (some (ad.add a))), IsV (.int .u64 (U64 x)), IsV (.tuple #[.agg #[.int .i64 P, .int .i64 n, .bool false, .int .i64 0], .int .i64 0]), IsV (.tuple #[.agg #[.int .i64 P, .int .i64 n, .bool false, .int .i64 0], .int .i64 0]), IsV (.agg #[.int .i64 P, .int .i64 n, .bool false, .int .i64 0]), IsV (.int .i64 0), BoxV 107 4 w.heap.size, fun _ _ => True, IsV (.int .i64 0)] : List (Value → World → Prop)).getD j fun _ _ => True) rfl hGs (fun v w h => h) ?_
      refine owes_vD (Go.Op.load 3 (Go.Operand.tmp 29)) 3 [6] (by kernel_rfl) (by kernel_rfl) (by kernel_rfl) rfl fun vals w1 ρ hG hF hρ hcst hfun => ?_
      have e29 : ρ (.tmp 29) = .pointer (some (ad2.add i)) := ((hρ 29).trans (slotJ [6] (by rw [hsz]; decide) (by kernel_rfl))).trans (hF 6 (by decide))
      have k := (hG.cell (p := ad2.add i) hlt).trans cl1
      clear hρ hF hGs hcst hfun sl0 sl3 sl5 fin
      exact opv_val (by go_simp <;> rfl) ⟨gw_self _, rfl⟩
    · refine OwesG.mk2 (D := Gw) (F' := fun j => ([IsV (.pointer (some ⟨R, 0, none⟩)), IsV (.pointer (some ⟨R, 0, none⟩)), IsV (.pointer (some ⟨R, 0, none⟩)), IsV (.slice A L c), IsV (.slice B N cl), IsV (.int .i64 (i : Int)), IsV (.pointer (some (ad2.add i))), IsV (.int .i64 (a : Int)), IsV (.pointer (some (ad.add a))), IsV (.int .u64 (U64 x)), IsV (.tuple #[.agg #[.int .i64 P, .int .i64 n, .bool false, .int .i64 0], .int .i64 0]), IsV (.tuple #[.agg #[.int .i64 P, .int .i64 n, .bool false, .int .i64 0], .int .i64 0]), IsV (.agg #[.int .i64 P, .int .i64 n, .bool false, .int .i64 0]), IsV (.int .i64 0), BoxV 107 4 w.heap.size, fun _ _ => True, IsV (.int .i64 0)] : List (Value → World → Prop)).getD j fun _ _ => True) rfl hGs (fun v w h => h) ?_
      refine owes_vD (Go.Op.indexAddr 22 (Go.Operand.tmp 26) (Go.Operand.tmp 30)) 0 [3, 7] (by kernel_rfl) (by kernel_rfl) (by kernel_rfl) rfl fun vals w1 ρ hG hF hρ hcst hfun => ?_
      have e26 : ρ (.tmp 26) = .slice A L c := ((hρ 26).trans (slotJ [3, 7] (by rw [hsz]; decide) (by kernel_rfl))).trans (hF 3 (by decide))
      have e30 : ρ (.tmp 30) = .int .i64 (a : Int) := ((hρ 30).trans (slotJ [3, 7] (by rw [hsz]; decide) (by kernel_rfl))).trans (hF 7 (by decide))
      subst hA
      clear hρ hF hGs hcst hfun sl0 sl3 sl5 fin
      exact opv_val (by go_simp <;> rfl) ⟨gw_self _, rfl⟩
    · refine OwesG.mk2 (D := Gw) (F' := fun j => ([IsV (.pointer (some ⟨R, 0, none⟩)), IsV (.pointer (some ⟨R, 0, none⟩)), IsV (.pointer (some ⟨R, 0, none⟩)), IsV (.slice A L c), IsV (.slice B N cl), IsV (.int .i64 (i : Int)), IsV (.pointer (some (ad2.add i))), IsV (.int .i64 (a : Int)), IsV (.pointer (some (ad.add a))), IsV (.int .u64 (U64 x)), IsV (.tuple #[.agg #[.int .i64 P, .int .i64 n, .bool false, .int .i64 0], .int .i64 0]), IsV (.tuple #[.agg #[.int .i64 P, .int .i64 n, .bool false, .int .i64 0], .int .i64 0]), IsV (.agg #[.int .i64 P, .int .i64 n, .bool false, .int .i64 0]), IsV (.int .i64 0), BoxV 107 4 w.heap.size, fun _ _ => True, IsV (.int .i64 0)] : List (Value → World → Prop)).getD j fun _ _ => True) rfl hGs (fun v w h => h) ?_
      refine owes_vD (Go.Op.load 44 (Go.Operand.tmp 31)) 44 [8] (by kernel_rfl) (by kernel_rfl) (by kernel_rfl) rfl fun vals w1 ρ hG hF hρ hcst hfun => ?_
      have e31 : ρ (.tmp 31) = .pointer (some (ad.add a)) := ((hρ 31).trans (slotJ [8] (by rw [hsz]; decide) (by kernel_rfl))).trans (hF 8 (by decide))
      have k := (hG.cell (p := ad.add a) hlt2).trans cw
      clear hρ hF hGs hcst hfun sl0 sl3 sl5 fin
      exact opv_val (by go_simp <;> rfl) ⟨gw_self _, rfl⟩
    · refine OwesG.mk2 (D := Gw) (F' := fun j => ([IsV (.pointer (some ⟨R, 0, none⟩)), IsV (.pointer (some ⟨R, 0, none⟩)), IsV (.pointer (some ⟨R, 0, none⟩)), IsV (.slice A L c), IsV (.slice B N cl), IsV (.int .i64 (i : Int)), IsV (.pointer (some (ad2.add i))), IsV (.int .i64 (a : Int)), IsV (.pointer (some (ad.add a))), IsV (.int .u64 (U64 x)), IsV (.tuple #[.agg #[.int .i64 P, .int .i64 n, .bool false, .int .i64 0], .int .i64 0]), IsV (.tuple #[.agg #[.int .i64 P, .int .i64 n, .bool false, .int .i64 0], .int .i64 0]), IsV (.agg #[.int .i64 P, .int .i64 n, .bool false, .int .i64 0]), IsV (.int .i64 0), BoxV 107 4 w.heap.size, fun _ _ => True, IsV (.int .i64 0)] : List (Value → World → Prop)).getD j fun _ _ => True) rfl hGs (fun v w h => h) ?_
      refine owes_vD (Go.Op.call { callee := Go.Callee.value (Go.Operand.func 60), args := #[Go.Operand.tmp 32], argTypes := #[44] }) 108 [9] (by kernel_rfl) (by kernel_rfl) (by kernel_rfl) rfl fun vals w1 ρ hG hF hρ hcst hfun => ?_
      have e32 : ρ (.tmp 32) = .int .u64 (U64 x) := ((hρ 32).trans (slotJ [9] (by rw [hsz]; decide) (by kernel_rfl))).trans (hF 9 (by decide))
      clear hρ hF hGs hcst sl0 sl3 sl5 fin
      exact opv_enter (by go_simp <;> rfl) (of_ret (hp.out w1))
    · refine OwesG.mk2 (D := Gw) (F' := fun j => ([IsV (.pointer (some ⟨R, 0, none⟩)), IsV (.pointer (some ⟨R, 0, none⟩)), IsV (.pointer (some ⟨R, 0, none⟩)), IsV (.slice A L c), IsV (.slice B N cl), IsV (.int .i64 (i : Int)), IsV (.pointer (some (ad2.add i))), IsV (.int .i64 (a : Int)), IsV (.pointer (some (ad.add a))), IsV (.int .u64 (U64 x)), IsV (.tuple #[.agg #[.int .i64 P, .int .i64 n, .bool false, .int .i64 0], .int .i64 0]), IsV (.tuple #[.agg #[.int .i64 P, .int .i64 n, .bool false, .int .i64 0], .int .i64 0]), IsV (.agg #[.int .i64 P, .int .i64 n, .bool false, .int .i64 0]), IsV (.int .i64 0), BoxV 107 4 w.heap.size, fun _ _ => True, IsV (.int .i64 0)] : List (Value → World → Prop)).getD j fun _ _ => True) rfl hGs (fun v w h => h) ?_
      exact owes_mvjD gw_self 10 33 (by kernel_rfl) (by kernel_rfl) (by kernel_rfl) (by kernel_rfl) (by rw [hsz]; decide) (fun v w h => h)
    · refine OwesG.mk2 (D := Gw) (F' := fun j => ([IsV (.pointer (some ⟨R, 0, none⟩)), IsV (.pointer (some ⟨R, 0, none⟩)), IsV (.pointer (some ⟨R, 0, none⟩)), IsV (.slice A L c), IsV (.slice B N cl), IsV (.int .i64 (i : Int)), IsV (.pointer (some (ad2.add i))), IsV (.int .i64 (a : Int)), IsV (.pointer (some (ad.add a))), IsV (.int .u64 (U64 x)), IsV (.tuple #[.agg #[.int .i64 P, .int .i64 n, .bool false, .int .i64 0], .int .i64 0]), IsV (.tuple #[.agg #[.int .i64 P, .int .i64 n, .bool false, .int .i64 0], .int .i64 0]), IsV (.agg #[.int .i64 P, .int .i64 n, .bool false, .int .i64 0]), IsV (.int .i64 0), BoxV 107 4 w.heap.size, fun _ _ => True, IsV (.int .i64 0)] : List (Value → World → Prop)).getD j fun _ _ => True) rfl hGs (fun v w h => h) ?_
      refine owes_vD (Go.Op.extract (Go.Operand.tmp 22) 0) 107 [11] (by kernel_rfl) (by kernel_rfl) (by kernel_rfl) rfl fun vals w1 ρ hG hF hρ hcst hfun => ?_
      have e22 : ρ (.tmp 22) = .tuple #[.agg #[.int .i64 P, .int .i64 n, .bool false, .int .i64 0], .int .i64 0] := ((hρ 22).trans (slotJ [11] (by rw [hsz]; decide) (by kernel_rfl))).trans (hF 11 (by decide))
      clear hρ hF hGs hcst hfun sl0 sl3 sl5 fin
      exact opv_val (by go_simp <;> rfl) ⟨gw_self _, rfl⟩
    · refine OwesG.mk2 (D := Gw) (F' := fun j => ([IsV (.pointer (some ⟨R, 0, none⟩)), IsV (.pointer (some ⟨R, 0, none⟩)), IsV (.pointer (some ⟨R, 0, none⟩)), IsV (.slice A L c), IsV (.slice B N cl), IsV (.int .i64 (i : Int)), IsV (.pointer (some (ad2.add i))), IsV (.int .i64 (a : Int)), IsV (.pointer (some (ad.add a))), IsV (.int .u64 (U64 x)), IsV (.tuple #[.agg #[.int .i64 P, .int .i64 n, .bool false, .int .i64 0], .int .i64 0]), IsV (.tuple #[.agg #[.int .i64 P, .int .i64 n, .bool false, .int .i64 0], .int .i64 0]), IsV (.agg #[.int .i64 P, .int .i64 n, .bool false, .int .i64 0]), IsV (.int .i64 0), BoxV 107 4 w.heap.size, fun _ _ => True, IsV (.int .i64 0)] : List (Value → World → Prop)).getD j fun _ _ => True) rfl hGs (fun v w h => h) ?_
      refine owes_vD (Go.Op.extract (Go.Operand.tmp 22) 1) 3 [11] (by kernel_rfl) (by kernel_rfl) (by kernel_rfl) rfl fun vals w1 ρ hG hF hρ hcst hfun => ?_
      have e22 : ρ (.tmp 22) = .tuple #[.agg #[.int .i64 P, .int .i64 n, .bool false, .int .i64 0], .int .i64 0] := ((hρ 22).trans (slotJ [11] (by rw [hsz]; decide) (by kernel_rfl))).trans (hF 11 (by decide))
      clear hρ hF hGs hcst hfun sl0 sl3 sl5 fin
      exact opv_val (by go_simp <;> rfl) ⟨gw_self _, rfl⟩
    · refine OwesG.mk2 (D := Gw) (F' := fun j => ([IsV (.pointer (some ⟨R, 0, none⟩)), IsV (.pointer (some ⟨R, 0, none⟩)), IsV (.pointer (some ⟨R, 0, none⟩)), IsV (.slice A L c), IsV (.slice B N cl), IsV (.int .i64 (i : Int)), IsV (.pointer (some (ad2.add i))), IsV (.int .i64 (a : Int)), IsV (.pointer (some (ad.add a))), IsV (.int .u64 (U64 x)), IsV (.tuple #[.agg #[.int .i64 P, .int .i64 n, .bool false, .int .i64 0], .int .i64 0]), IsV (.tuple #[.agg #[.int .i64 P, .int .i64 n, .bool false, .int .i64 0], .int .i64 0]), IsV (.agg #[.int .i64 P, .int .i64 n, .bool false, .int .i64 0]), IsV (.int .i64 0), BoxV 107 4 w.heap.size, fun _ _ => True, IsV (.int .i64 0)] : List (Value → World → Prop)).getD j fun _ _ => True) rfl hGs (fun v w h => h) ?_
      refine owes_vD (Go.Op.alloc 107) 0 [] (by kernel_rfl) (by kernel_rfl) (by kernel_rfl) rfl fun vals w1 ρ hG hF hρ hcst hfun => ?_
      clear hρ hF hGs hcst hfun sl0 sl3 sl5 fin
      exact opv_val (by go_simp <;> rfl) ⟨Gw.alloc _ _, ⟨_, _, rfl, hG.size, rfl, Bk.new _ _ _⟩⟩
    · exact owes_box (type := 0) (tp := 6) (tv := 34) (jp := 14) (jv := 12) (cs := #[.int .i64 P, .int .i64 n, .bool false, .int .i64 0]) (by kernel_rfl) (by kernel_rfl) (by kernel_rfl) (by kernel_rfl) (by kernel_rfl) (by kernel_rfl) (by rw [hsz]; decide) (by rw [hsz]; decide) (by decide) rfl rfl rfl (by kernel_rfl) rfl (by simp [Value.oneCell']) (fun _ _ h => h) (fun _ _ h => h) (fun _ _ h => h)
    · refine OwesG.mk2 (D := Gw) (F' := fun j => ([IsV (.pointer (some ⟨R, 0, none⟩)), IsV (.pointer (some ⟨R, 0, none⟩)), IsV (.pointer (some ⟨R, 0, none⟩)), IsV (.slice A L c), IsV (.slice B N cl), IsV (.int .i64 (i : Int)), IsV (.pointer (some (ad2.add i))), IsV (.int .i64 (a : Int)), IsV (.pointer (some (ad.add a))), IsV (.int .u64 (U64 x)), IsV (.tuple #[.agg #[.int .i64 P, .int .i64 n, .bool false, .int .i64 0], .int .i64 0]), IsV (.tuple #[.agg #[.int .i64 P, .int .i64 n, .bool false, .int .i64 0], .int .i64 0]), IsV (.agg #[.int .i64 P, .int .i64 n, .bool false, .int .i64 0]), IsV (.int .i64 0), BoxV 107 4 w.heap.size, fun _ _ => True, IsV (.int .i64 0)] : List (Value → World → Prop)).getD j fun _ _ => True) rfl hGs (fun v w h => h) ?_
      exact owes_mvjD gw_self 13 35 (by kernel_rfl) (by kernel_rfl) (by kernel_rfl) (by kernel_rfl) (by rw [hsz]; decide) (fun v w h => h)
  · intro vals w1 hG hF
    exact fin vals w1 hG (hF 15 (by decide +kernel)) (hF 16 (by decide +kernel))
theorem wellN_no {ws : List (BitVec 64)} {l : List Nat} {a k : Nat} {R : Int} (hR : R = if l.all (wellN ws l) = true then 0 else 2) (ha : a ∈ l) (hk : k < P0 (ws.getD a 0#64)) (h : ptrN ws l a k = false) : R = 2 := by
  rw [hR, if_neg (all_no ha ?_)]
  unfold wellN
  rw [Bool.and_eq_false_iff]
  left
  cases h2 : (List.range (P0 (ws.getD a 0#64))).all (ptrN ws l a) with
  | false => rfl
  | true =>
    have := List.all_eq_true.1 h2 k (List.mem_range.2 hk)
    rw [h] at this; cases this
theorem wellN_np {ws : List (BitVec 64)} {l : List Nat} {a : Nat} {R : Int} (hR : R = if l.all (wellN ws l) = true then 0 else 2) (ha : a ∈ l) (h : padN ws a = false) : R = 2 := by
  rw [hR, if_neg (all_no ha ?_)]
  unfold wellN
  rw [h, Bool.and_false]
set_option maxHeartbeats 4000000
theorem rwell_c (w : World) (s : Nat) (A : Option Addr) (c : Nat) (ws : List (BitVec 64)) (b t e : Nat) (p : RefAt w s A c ws b t e) (hbt : b ≤ t) (htw : t ≤ ws.length) (hl : ws.length ≤ 8192) :
    Calls Try.prog 30 #[.pointer (some ⟨s, 0, none⟩)] w (RetP (.int .i64 (wellE ws b t)) w) := by
  have HOb := Lib.hid (robjects_c w s A c ws b t e p hbt htw (by omega))
  obtain ⟨R, hR⟩ : ∃ R, R = wellE ws b t := ⟨_, rfl⟩
  rw [← hR]
  have HR := Lib.hid hR
  have HP := Lib.hid p
  have HL := Lib.hid hl
  have HT := Lib.hid htw
  obtain ⟨N0, hN0⟩ : ∃ N, N = ws.length := ⟨_, rfl⟩
  have HN0 := Lib.hid hN0
  clear hR p hl hbt htw hN0
  cases ho : objF ws t (t + 1) b with
  | none =>
    rw [ho] at HOb
    have HOb2 := Lib.hid (show Calls Try.prog 59 #[.pointer (some ⟨s, 0, none⟩)] w (RetP (.tuple #[.slice none 0 0, .bool false]) w) from HOb.out)
    obtain rfl : R = 2 := by rw [HR.out]; exact well_none ho
    clear HOb ho HR
    go_enter Try.func30, Try.ntmps30
    go_wp2_with fail
    refine Calls.mono HOb2.out ?_
    rintro r w2 ⟨rfl, b2⟩
    have HB2 := Lib.hid b2
    clear b2
    go_wp2_with fail
    go_ret
    exact ⟨rfl, HB2.out⟩
  | some l =>
    rw [ho] at HOb
    have HOb2 := Lib.hid (show Calls Try.prog 59 #[.pointer (some ⟨s, 0, none⟩)] w (fun e w' => ∃ A c, e = .returned (.tuple #[.slice A l.length c, .bool true]) ∧ l.length ≤ c ∧ Ow iN 3 w' w.heap.size (.slice A l.length c) l ∧ Below w.heap.size w w') from HOb.out)
    have HRl := Lib.hid (show R = if l.all (wellN ws l) = true then 0 else 2 from by rw [HR.out]; exact well_some ho)
    have HMem := Lib.hid (objF_mem _ _ _ ho)
    have hlen := objF_len _ _ _ ho
    obtain ⟨N, hN⟩ : ∃ N, N = l.length := ⟨_, rfl⟩
    have qN : (N : Int) ≤ 8193 := by have := HT.out; have := HL.out; omega
    have HN := Lib.hid hN
    clear HOb ho HR hlen hN
    go_enter Try.func30, Try.ntmps30
    go_wp2_with fail
    refine Calls.mono HOb2.out ?_
    rintro r w2 ⟨B, cl, rfl, hc, ho, b2⟩
    have HB2 := Lib.hid b2
    have HRd := Lib.hid ho.rd
    rw [← HN.out]
    clear hc ho b2 HOb2
    go_wp2_with fail
    go_loopw [5] (fun i W => ∃ k : Nat, i = .int .i64 k ∧ k ≤ N ∧ Hid ((l.take k).all (wellN ws l) = true) ∧ Hid (Below w2.heap.size w2 W)) (fun i _ => N - (Go.RowKit.intOf i).toNat)
    case atStart => exact ⟨0, rfl, Nat.zero_le _, Lib.hid rfl, Lib.hid (Below.refl _ _)⟩
    case round =>
      obtain ⟨k, rfl, hk, hW, hB⟩ := hrel
      by_cases hlt : k < N
      · have hkl : k < l.length := by rw [← HN.out]; exact hlt
        obtain ⟨a, ha⟩ : ∃ a, a = l[k] := ⟨_, rfl⟩
        have ham : a ∈ l := by rw [ha]; exact List.getElem_mem _
        obtain ⟨hab, hat, hag⟩ := HMem.out a ham
        obtain ⟨ad2, rfl, hb2, hc⟩ := (HRd.out.below hB.out) k hkl
        rw [← ha] at hc
        unfold iN at hc
        have haN : a < N0 := by have := HT.out; have := HN0.out; omega
        have hp0 := HP.out.below (HB2.out.trans (hB.out.mono HB2.out.size))
        obtain ⟨d0, _⟩ := hp0.four
        rw [← HN0.out] at d0
        obtain ⟨ad, hA, hb3, hcw⟩ := hp0.rd a (by rw [← HN0.out]; exact haN)
        have hxx : u64v ws[a] = .int .u64 (U64 (ws.getD a 0#64)) := by simp [List.getD, (by rw [← HN0.out]; exact haN : a < ws.length), u64v]
        rw [hxx] at hcw
        obtain ⟨hun, hP64, hB1024, hsz, hsh, hroom⟩ := head_of hag
        have HUn := Lib.hid (fun W => hun ▸ runpack_c (ws.getD a 0#64) W)
        have HTk := Lib.hid (show l.take (k + 1) = l.take k ++ [a] from by rw [List.take_succ_eq_append_getElem hkl, ha])
        have HWp := Lib.hid (fun j (hj : j < P0 (ws.getD a 0#64)) (h : ptrN ws l a j = false) => wellN_no HRl.out ham hj h)
        have HWq := Lib.hid (fun (h : padN ws a = false) => wellN_np HRl.out ham h)
        have hpe : padB ws (8 * (a + 1 + P0 (ws.getD a 0#64)) + B0 (ws.getD a 0#64)) (8 * (a + szX (ws.getD a 0#64)) - (8 * (a + 1 + P0 (ws.getD a 0#64)) + B0 (ws.getD a 0#64))) = padN ws a := rfl
        have HPd := Lib.hid (fun W (hr : RefAt W s A c ws b t e) => hpe ▸ rpad_c W s A c ws b t e hr (by have := HL.out; omega) a (P0 (ws.getD a 0#64)) (B0 (ws.getD a 0#64)) (szX (ws.getD a 0#64)) hP64 hB1024 hsh (by omega) (by have := HT.out; omega) (by omega))
        have HPt := Lib.hid (fun W (hr : Rd iN W W.heap.size (some ad2) l) x => HN.out ▸ points_c W (some ad2) cl l hr (by rw [← HN.out]; omega) (fun y hy => by have := (HMem.out y hy).2.1; have := HT.out; have := HL.out; omega) x)
        have HWn : wellN ws l a = ((List.range (P0 (ws.getD a 0#64))).all (ptrN ws l a) && padN ws a) := rfl
        have hsz2 : a + 1 + P0 (ws.getD a 0#64) ≤ N0 := by rw [HN0.out]; have := HT.out; omega
        obtain ⟨x, hx⟩ : ∃ x, x = ws.getD a 0#64 := ⟨_, rfl⟩
        rw [← hx] at hcw HUn HWp HPd HWn hP64 hsz2
        obtain ⟨P, hP'⟩ : ∃ P, P = P0 x := ⟨_, rfl⟩
        obtain ⟨n, hn'⟩ : ∃ P, P = B0 x := ⟨_, rfl⟩
        rw [← hP'] at HUn HWp HPd HWn hP64 hsz2
        rw [← hn'] at HUn HPd
        have HWn2 := Lib.hid (And.intro HWn ham)
        have q0 : (0 : Int) ≤ (k : Int) := by omega
        have q1 : (k : Int) < (N : Int) := by omega
        have q2 : (0 : Int) ≤ (a : Int) := by omega
        have q6 : (a : Int) < (N0 : Int) := by omega
        have qP : (P : Int) ≤ 64 := by omega
        have qs : (a : Int) + 1 + (P : Int) ≤ (N0 : Int) := by omega
        have qn0 : (N0 : Int) ≤ 8192 := by have := HL.out; have := HN0.out; omega
        have hR : s < wr.heap.size := hp0.blk.lt
        have hlt1 : (ad2.add k).block < wr.heap.size := by rw [add_block]; exact Nat.lt_of_lt_of_le hb2 hB.out.size
        have hlt2 : (ad.add a).block < wr.heap.size := by rw [add_block]; exact hb3
        have HC0 := Lib.hid (And.intro hp0 (And.intro hc (And.intro hA (And.intro hb2 hb3))))
        clear ha hab hat hag hun hsz hsh hroom hpe HWn hP64 hB1024 hsz2 hx hP' hn' hxx haN ham hkl hp0
        go_wp2_with fail
        refine rw7 _ _ _ s a k N A (some ad2) N0 c cl x (P : Int) (n : Int) hR ad ad2 hA rfl d0 hlt1 hlt2 hc q0 q1 q2 q6 hcw HUn rfl rfl rfl rfl ?_
        intro vals w3 hG hbx h7
        obtain ⟨hk3, ek, hk3B, hbk⟩ := hbx
        unfold IsV at h7
        simp only [putO, Act.put, List.setIfInBounds_toArray, List.set_cons_zero, List.set_cons_succ, ek, h7]
        have H3 := Lib.hid (And.intro hbk (And.intro (hB.out.trans (hG.mono hB.out.size)) hG))
        clear hG h7 ek hbk hc hcw d0 hlt1 hlt2 hR HUn
        go_wp2_with fail
        go_loopw [8] (fun i W => ∃ j : Nat, i = .int .i64 j ∧ j ≤ P ∧ Hid ((List.range j).all (ptrN ws l a) = true) ∧ Hid (Below w3.heap.size w3 W)) (fun i _ => P - (Go.RowKit.intOf i).toNat)
        case atStart => exact ⟨0, rfl, Nat.zero_le _, Lib.hid rfl, Lib.hid (Below.refl _ _)⟩
        case round =>
          clear hlt hk
          obtain ⟨j, rfl, hj, hA2, hB3⟩ := hrel
          have hk4 := H3.out.1.below hB3.out H3.out.1.lt
          obtain ⟨k0, k1, k2, k3⟩ := hk4.four
          have hklt := hk4.lt
          have hgr := H3.out.2.2.trans (hB3.out.mono H3.out.2.2.size)
          have hp0 := HC0.out.1.below hgr
          obtain ⟨d0, _⟩ := hp0.four
          rw [← HN0.out] at d0
          have hRs : s < wr.heap.size := hp0.blk.lt
          have HBw := Lib.hid (H3.out.2.1.trans (hB3.out.mono H3.out.2.1.size))
          have hRl := Lib.hid ((HRd.out.below HBw.out).more HBw.out.size)
          have hcc : wr.cell? (ad2.add k) = some (.int .i64 (a : Int)) := (hgr.cell (p := ad2.add k) (by rw [add_block]; have := HC0.out.2.2.2.1; have := hB.out.size; omega)).trans HC0.out.2.1
          have hlt1 : (ad2.add k).block < wr.heap.size := by rw [add_block]; have := HC0.out.2.2.2.1; have := HBw.out.size; omega
          by_cases hjt : j < P
          · have hq : a + 1 + j < N0 := by omega
            obtain ⟨q, hqe⟩ : ∃ q, q = a + 1 + j := ⟨_, rfl⟩
            have hqw : q < ws.length := by rw [← HN0.out, hqe]; exact hq
            obtain ⟨ad', hA', hb4, hcy⟩ := hp0.rd q hqw
            have hadd : ad' = ad := by have := HC0.out.2.2.1; rw [hA'] at this; injection this
            subst hadd
            obtain ⟨y, hy⟩ : ∃ y, y = ws.getD q 0#64 := ⟨_, rfl⟩
            have hxx : u64v ws[q] = .int .u64 (U64 y) := by rw [hy]; simp [List.getD, hqw, u64v]
            rw [hxx] at hcy
            have hlt2 : (ad'.add q).block < wr.heap.size := by rw [add_block]; exact hb4
            have hpn : ptrN ws l a j = decide (y.toNat = 0 ∨ (1 ≤ y.toNat ∧ y.toNat - 1 ∈ l)) := by unfold ptrN; rw [hy, hqe]
            obtain ⟨r, hr⟩ : ∃ r, r = ptrN ws l a j := ⟨_, rfl⟩
            have HRg := Lib.hid (show (List.range (j + 1)).all (ptrN ws l a) = r from by rw [List.range_succ, List.all_append, hA2.out, hr]; simp)
            have HNo := Lib.hid (show r = false → R = 2 from fun h => HWp.out j hjt (by rw [← hr]; exact h))
            have HPc := Lib.hid (fun W (hb : Below wr.heap.size wr W) => (hr.trans hpn) ▸ HPt.out W ((hRl.out.below hb).more hb.size) y)
            have e7 : (a : Int) + 1 + (j : Int) = (q : Int) := by omega
            have e8 : (0 : Int) ≤ (q : Int) := by omega
            have e6 : (q : Int) < (N0 : Int) := by omega
            have e5 : (0 : Int) ≤ (j : Int) := by omega
            have e4 : (j : Int) ≤ 100 := by omega
            have e3 : (j : Int) < (P : Int) := by omega
            have e9 : (a : Int) ≤ 100000 := by omega
            clear hy hpn hxx hqw hqe hq hp0 hA2 hr hk4 hgr
            go_wp2_with fail
            refine rw11 _ _ _ s a j q k N A (some ad2) N0 c cl 0 0 0 0 r y hRs ad' ad2 hA rfl d0 hlt1 hlt2 hcc q0 q1 q2 e9 e4 e5 e6 e7 e8 hcy HPc rfl rfl rfl rfl rfl ?_
            intro vals2 w5 hG5 h57
            unfold IsV at h57
            simp only [putD, Act.put, List.setIfInBounds_toArray, List.set_cons_zero, List.set_cons_succ, h57]
            have HB5 := Lib.hid (hB3.out.trans (hG5.mono hB3.out.size))
            clear hG5 h57 k0 k1 k2 k3 d0 hcc hcy hRs hlt1 hlt2
            cases r with
            | false =>
              obtain rfl : R = 2 := HNo.out rfl
              go_wp2_with fail
              go_ret
              exact ⟨rfl, HB2.out.trans ((H3.out.2.1.trans (HB5.out.mono H3.out.2.1.size)).mono HB2.out.size)⟩
            | true =>
              have HX := Lib.hid HRg.out
              clear HNo HRg HPc
              go_wp2_with fail
              go_roundw
              case rel => first | exact ⟨j + 1, by go_num, by omega, HX, HB5⟩ | ((repeat apply Exists.intro); refine ⟨?_, rfl⟩; exact ⟨j + 1, by go_num, by omega, HX, HB5⟩)
              case measure => simp [Go.RowKit.intOf]; omega
          · have hjP : P = j := by omega
            subst hjP
            have HPd2 := Lib.hid (fun W (hb : Below wr.heap.size wr W) => HPd.out W (hp0.below hb))
            obtain ⟨pd, hpd⟩ : ∃ pd, pd = padN ws a := ⟨_, rfl⟩
            rw [← hpd] at HPd2
            have HWv := Lib.hid (show wellN ws l a = pd from by rw [HWn2.out.1, hA2.out, hpd]; rfl)
            have HWq2 := Lib.hid (show pd = false → R = 2 from fun h => HWq.out (by rw [← hpd]; exact h))
            clear hpd hp0 hA2 hjt hj hk4 hgr d0
            go_wp2_with fail
            refine rw13 _ _ _ s a k N hk3 (some ad2) cl (P : Int) (n : Int) (!pd) ad2 rfl hlt1 hcc q0 q1 hklt k0 k1 k2 k3 HPd2 rfl rfl rfl rfl rfl ?_
            intro vals2 w5 hG5 h64
            unfold IsV at h64
            simp only [putD, Act.put, List.setIfInBounds_toArray, List.set_cons_zero, List.set_cons_succ, h64]
            have HB5 := Lib.hid (HBw.out.trans (hG5.mono HBw.out.size))
            clear hG5 h64 k0 k1 k2 k3 hcc hRs hlt1 hklt
            cases pd with
            | false =>
              obtain rfl : R = 2 := HWq2.out rfl
              go_wp2_with fail
              go_ret
              exact ⟨rfl, HB2.out.trans (HB5.out.mono HB2.out.size)⟩
            | true =>
              have HX := Lib.hid (show (l.take (k + 1)).all (wellN ws l) = true from by rw [HTk.out, List.all_append, hW.out]; simp [HWv.out])
              clear HWq2 HPd2 HWv
              go_wp2_with fail
              go_roundw
              case rel => first | exact ⟨k + 1, by go_num, by omega, HX, HB5⟩ | ((repeat apply Exists.intro); refine ⟨?_, rfl⟩; exact ⟨k + 1, by go_num, by omega, HX, HB5⟩)
              case measure => simp [Go.RowKit.intOf]; omega
      · have hkN : N = k := by omega
        have hR0 : R = 0 := by
          rw [HRl.out]
          rw [if_pos]
          have := hW.out
          rwa [← hkN, HN.out, List.take_length] at this
        subst hkN
        subst hR0
        clear hW hlt hk
        go_wp2_with fail
        go_ret
        exact ⟨rfl, HB2.out.trans (hB.out.mono HB2.out.size)⟩
end Go.Proofs.Ytlibcpboooehlaa
/- The reference's Copy. Conditions: lengths. -/
namespace Go.Proofs.Ytlibcpboooehlaa
set_option linter.unusedVariables false
set_option linter.unusedSimpArgs false
open Go.RowKit Go.Maps
theorem zV_oneR : ∀ x : Int, (zV x).oneCell' = true := fun _ => rfl
def RCopyR (w : World) (m n : Nat) (x : Option (List Nat × Cy)) (r : Ending) (w' : World) : Prop := match x with
  | some (qs, d) => ∃ (N : Nat) (A : Option Addr) (nc : Nat) (A2 : Option Addr) (c2 : Nat), r = .returned (.tuple #[.pointer (some ⟨N, 0, none⟩), .slice A2 n c2, .int .i64 0]) ∧ RefAt w' N A nc d.T 0 d.top m ∧ d.T.length = m ∧ qs.length = n ∧ Rd zV w' w'.heap.size A2 (backZ qs) ∧ Below w.heap.size w w'
  | none => RetP (.tuple #[.pointer none, .slice none 0 0, .int .i64 6]) w r w'
theorem contC_len {m : Nat} : ∀ {ps : List Nat} {c : Cy} {qs rs : List Nat} {d : Cy}, contC m ps c qs = some (rs, d) → rs.length = qs.length + ps.length
  | [], c, qs, rs, d, h => by
    have h : finC m c (qs ++ []) = some (rs, d) := h
    rw [List.append_nil] at h
    unfold finC at h
    cases hg : goC (m + 1) 0 c with
    | none => rw [hg] at h; cases h
    | some z => rw [hg] at h; injection h with h; injection h with h1 h2; rw [← h1]; rfl
  | p :: ps, c, qs, rs, d, h => by
    rw [contC_cons] at h
    cases hr : takeP c p with
    | none => rw [hr] at h; cases h
    | some z =>
      obtain ⟨q, z⟩ := z
      rw [hr] at h
      have := contC_len (ps := ps) h
      rw [this]
      simp
      omega
set_option maxHeartbeats 4000000
set_option maxRecDepth 100000
theorem rcopy_ok (w : World) (R : Nat) (A : Option Addr) (c : Nat) (ws : List (BitVec 64)) (b t e : Nat) (p : RefAt w R A c ws b t e) (hbt : b ≤ t) (htw : t ≤ ws.length) (hl : ws.length ≤ 8192) (l : List Nat) (ho : objF ws t (t + 1) b = some l) (hw : l.all (wellN ws l) = true) (A2 : Option Addr) (roots : List Int) (c2 : Nat) (hr : Rd zV w w.heap.size A2 roots) (hrl : roots.length ≤ 100000) (hra : roots.all (rootB l) = true) (m : Nat) (hm : m ≤ 8192) :
    Calls Try.prog 10 #[.pointer (some ⟨R, 0, none⟩), .slice A2 roots.length c2, .int .i64 m] w (RCopyR w m roots.length (copyC ws m (roots.map rootP))) := by
  have HWl := Lib.hid (rwell_c w R A c ws b t e p hbt htw hl)
  rw [well_some ho, if_pos hw] at HWl
  have HRt := Lib.hid (fun W (hb : Below w.heap.size w W) => rroots_c W R A c ws b t e (p.below hb) hbt htw hl l ho A2 roots c2 ((hr.below hb).more hb.size) hrl)
  rw [hra] at HRt
  have HSt := Lib.hid (fun W (hb : Below w.heap.size w W) => rstart_c W R A c ws b t e (p.below hb) m hm)
  have HH := Lib.hid (heap_of ho hw htw hl)
  obtain ⟨Z, hZ⟩ : ∃ Z, Z = copyC ws m (roots.map rootP) := ⟨_, rfl⟩
  rw [← hZ]
  have HZ := Lib.hid (show contC m ((roots.map rootP).drop 0) ⟨ws, List.replicate m 0#64, 0⟩ [] = Z by rw [hZ, copyC_cont]; rfl)
  have HRd := Lib.hid hr
  have HRa := Lib.hid (List.all_eq_true.1 hra)
  have HM8 := Lib.hid hm
  obtain ⟨n, hn⟩ : ∃ n, n = roots.length := ⟨_, rfl⟩
  have HN := Lib.hid hn
  rw [← hn] at HRt hrl ⊢
  have hn5 : (n : Int) ≤ 100000 := by omega
  have m0 : (0 : Int) ≤ (m : Int) := by omega
  have m8 : (m : Int) ≤ 8192 := by omega
  clear p hbt htw hl ho hw hr hra hm hZ hn hrl
  go_enter Try.func10, Try.ntmps10
  go_wp2_with fail
  refine Calls.mono HWl.out ?_
  rintro r w1 ⟨rfl, b1⟩
  have H1 := Lib.hid b1
  clear b1
  go_wp2_with fail
  refine Calls.mono (HRt.out w1 H1.out) ?_
  rintro r w2 ⟨rfl, b2⟩
  have H2 := Lib.hid (H1.out.trans (b2.mono H1.out.size))
  clear b2
  go_wp2_with fail
  refine Calls.mono (HSt.out w2 H2.out) ?_
  rintro r w3 ⟨X, N, q, rfl, hrc, b3⟩
  have HS : Hid (∃ xs : List Int, xs.length = 0 ∧ Ow zV 3 w3 w2.heap.size (.slice none 0 0) xs ∧ RtS (fun j => (Value.slice none 0 0).ownBlock = some j) w3 w2.heap.size X R N A c ws b t e l m Z ((roots.map rootP).drop 0) xs ∧ Below w2.heap.size w2 w3) := Lib.hid ⟨[], rfl, Ow.nil_ _ _ _ _, ⟨⟨ws, List.replicate m 0#64, 0⟩, false, ⟨_, m, _, _, [], by
      have h := hrc
      show RcAt _ _ _ _ _ _ _ _ _ _ _ _ _ _ _ (List.replicate m 0#64) 0 [] 0 false
      exact h, RelU.start HH.out m, inv_start HH.out HM8.out, by simp, fun k hk => by cases hk⟩, .inr ⟨rfl, [], [], rfl, rfl, fun _ h => (by cases h), HZ.out⟩⟩, b3⟩
  clear hrc b3
  go_wp2_with fail
  go_loopw [10, 11] (fun o i W => ∃ k : Nat, i = .int .i64 k ∧ k ≤ n ∧ Hid (∃ xs : List Int, xs.length = k ∧ Ow zV 3 W w2.heap.size o xs ∧ RtS (fun j => o.ownBlock = some j) W w2.heap.size X R N A c ws b t e l m Z ((roots.map rootP).drop k) xs ∧ Below w2.heap.size w2 W)) (fun _ i _ => n - (Go.RowKit.intOf i).toNat)
  case atStart => exact ⟨0, rfl, Nat.zero_le _, HS⟩
  case round =>
    obtain ⟨k, rfl, hk, hS⟩ := hrel
    clear HS
    obtain ⟨xs, e1, e2, e3, e4⟩ := hS.out
    have p0 : (0 : Int) ≤ (k : Int) := by omega
    by_cases hlt : k < n
    · have p1 : (k : Int) < (n : Int) := by omega
      have hkl : k < roots.length := by rw [← HN.out]; exact hlt
      obtain ⟨y, hy⟩ : ∃ y, y = roots[k] := ⟨_, rfl⟩
      obtain ⟨ad, rfl, hlt2, hc⟩ := (HRd.out.below (H2.out.trans (e4.mono H2.out.size))) k hkl
      rw [← hy] at hc
      unfold zV at hc
      have hdr : (roots.map rootP).drop k = rootP y :: (roots.map rootP).drop (k + 1) := by
        rw [List.drop_eq_getElem_cons (by rw [List.length_map]; exact hkl), List.getElem_map, hy]
      rw [hdr] at e3
      have HMv := Lib.hid (rroot_step wr HH.out y _ e3 (HRa.out y (by rw [hy]; exact List.getElem_mem _)))
      have HE := Lib.hid (And.intro e1 (And.intro e2 e4))
      clear hy hdr e1 e2 e3 e4 hS hkl
      go_wp2_with fail
      refine Calls.mono HMv.out ?_
      rintro r w6 ⟨v, rfl, hs6, b6, k6⟩
      have ho6 := k6.ow HE.out.2.1 (fun j hj h => h hj)
      have H6 := Lib.hid (And.intro hs6 (And.intro b6 ho6))
      have HLn := Lib.hid (show xs.length + [v].length ≤ 4294967296 by rw [HE.out.1]; simp; omega)
      have HBs := Lib.hid (show w2.heap.size ≤ w6.heap.size by have := HE.out.2.2.size; have := b6.size; omega)
      clear hs6 b6 k6 ho6
      go_wp2_with (at_builtin; refine wp_app oneI zV_oneR rfl (.tmp 34) (.tmp 41) rfl w2.heap.size _ xs rfl (H6.out.2.2.alloc _) (some ⟨w6.heap.size, 0, none⟩) 1 1 [v] rfl rfl (w6.heap.size + 1) (rd1_new rfl) HLn.out (by decide) (Nat.le_trans HBs.out (Gw.alloc w6 _).size) ?_; intro v8 w8 ho8 hb8 hg8 hv8; have H8 := Lib.hid (And.intro ho8 (And.intro hg8 hv8)); clear ho8 hb8 hg8 hv8)
      have hst : RtS (fun j => v8.ownBlock = some j) w8 w2.heap.size X R N A c ws b t e l m Z ((roots.map rootP).drop (k + 1)) (xs ++ [v]) ∧ Below w2.heap.size w6 w8 := by
        obtain ⟨d, full, s1, s2⟩ := H6.out.1
        have hgr := s1.grow (fun j hj => (HE.out.2.1.lt j hj).1) H8.out.2.1 H8.out.2.2 H8.out.1
        exact ⟨⟨d, full, hgr.1, s2⟩, hgr.2⟩
      have HNx : Hid (∃ xs : List Int, xs.length = k + 1 ∧ Ow zV 3 w8 w2.heap.size v8 xs ∧ RtS (fun j => v8.ownBlock = some j) w8 w2.heap.size X R N A c ws b t e l m Z ((roots.map rootP).drop (k + 1)) xs ∧ Below w2.heap.size w2 w8) := Lib.hid ⟨xs ++ [v], by rw [List.length_append, HE.out.1]; rfl, H8.out.1, hst.1, (HE.out.2.2.trans H6.out.2.1).trans hst.2⟩
      clear hst hc
      go_roundw
      case rel => first | exact ⟨k + 1, by go_num, by omega, HNx⟩ | ((repeat apply Exists.intro); refine ⟨?_, rfl⟩; exact ⟨k + 1, by go_num, by omega, HNx⟩)
      case measure => simp [Go.RowKit.intOf]; omega
    · have p1 : ¬ (k : Int) < (n : Int) := by omega
      have hkn : k = n := by omega
      rw [hkn, List.drop_of_length_le (by rw [List.length_map, HN.out]; exact Nat.le_refl _)] at e3
      obtain ⟨full, e3'⟩ := e3.go
      obtain ⟨w5, hw5⟩ : ∃ w5, w5 = wr := ⟨_, rfl⟩
      rw [← hw5] at e3' e2 e4 ⊢
      have HS2 : Hid (∃ full, GoS full (fun j => u10.ownBlock = some j) w5 w2.heap.size X R N A c ws b t e l m Z (m + 1) xs ∧ Ow zV 3 w5 w2.heap.size u10 xs ∧ Below w2.heap.size w2 w5) := Lib.hid ⟨full, e3', e2, e4⟩
      have HXl := Lib.hid (show xs.length = n by omega)
      clear e1 e2 e3 e3' e4 hS hw5 hkn
      go_wp2_with fail
      go_loopg [44] (m + 1) (fun gk x W => Hid (∃ full, GoS full (fun j => u10.ownBlock = some j) W w2.heap.size X R N A c ws b t e l m Z gk xs ∧ Ow zV 3 W w2.heap.size u10 xs ∧ Below w2.heap.size w2 W))
      case atStart => exact HS2
      case round =>
        have hS := hrel
        clear hrel HS2
        obtain ⟨full, e1, e2, e3⟩ := hS.out
        have HOn := Lib.hid (rone_step wr HH.out HM8.out full gk e1 (fun k hk => (e2.lt k hk).2))
        have HE := Lib.hid (And.intro e2 e3)
        clear e1 e2 e3 hS
        go_wp2_with fail
        refine Calls.mono HOn.out ?_
        rintro r w6 ⟨bl, rfl, b6, k6, ht, hf⟩
        have ho6 := k6.ow HE.out.1 (fun j hj h => h hj)
        have H6 := Lib.hid (And.intro (HE.out.2.trans b6) ho6)
        cases bl with
        | true =>
          obtain ⟨g, rfl, hg⟩ := ht rfl
          obtain ⟨dd, ss, hg1, _⟩ := id hg
          obtain ⟨_, _, hX6, _, _, _, x5, _⟩ := hg1.cells
          have HN6 : Hid (∃ full, GoS full (fun j => u10.ownBlock = some j) w6 w2.heap.size X R N A c ws b t e l m Z g xs ∧ Ow zV 3 w6 w2.heap.size u10 xs ∧ Below w2.heap.size w2 w6) := Lib.hid ⟨false, hg, H6.out.2, H6.out.1⟩
          clear hg hg1 b6 k6 ht hf ho6
          go_wp2_with fail
          go_roundg g
          case measure => omega
          case rel => exact HN6
        | false =>
          obtain ⟨d, s, fu, hs, hz⟩ := hf rfl
          obtain ⟨nA, nc, hX6, _, x1, _, x5, _⟩ := hs.cells
          have HRs := Lib.hid hs
          have hw6 := Lib.hid (H2.out.trans (H6.out.1.mono H2.out.size))
          rcases hz with ⟨rfl, hz⟩ | ⟨rfl, qs, hq, hz⟩
          · have HZ6 := Lib.hid hz
            clear b6 k6 ht hf ho6 hs hz
            go_wp2_with fail
            go_ret3
            rw [HZ6.out]
            exact ⟨rfl, hw6.out⟩
          · have HZ6 := Lib.hid (And.intro hz hq)
            obtain ⟨A4, c4, e4, _⟩ := ho6.form
            have hlen : qs.length = n := by rw [← HXl.out, hq]; simp [backZ]
            have HL4 := Lib.hid (And.intro hlen (And.intro e4 ho6))
            clear b6 k6 ht hf ho6 hs hz hq hlen e4
            go_wp2_with fail
            go_ret3
            rw [HZ6.out.1]
            obtain ⟨nA', nc', fv, tv, us, r1, _, _, r4, _⟩ := HRs.out
            have hn := r1.nw
            have hlx : xs.length = n := HXl.out
            have e4 := HL4.out.2.1
            rw [hlx] at e4
            refine ⟨N, nA', nc', A4, c4, (by rw [e4]; rfl), ⟨?_, r1.row.rd⟩, r4, HL4.out.1, ?_, hw6.out⟩
            · rw [r4] at hn ⊢
              exact hn
            · have h := HL4.out.2.2
              rw [HL4.out.2.1, HZ6.out.2] at h
              exact h.rd
end Go.Proofs.Ytlibcpboooehlaa
/- Live; known of layer 21. No conditions. -/
namespace Go.Proofs.Ytlibcpboooehlaa
set_option linter.unusedVariables false
set_option linter.unusedSimpArgs false
open Go.RowKit Go.Maps
set_option maxHeartbeats 4000000
set_option maxRecDepth 100000
/-- What a copy tells: the roots' places, the end, the words. -/
def tellC (x : Option (List Nat × Cy)) : Option (List Nat × Nat × List (BitVec 64)) := x.map fun r => (r.1, r.2.top, r.2.T)
theorem live_c (w : World) (B s g : Nat) (v : Value) (ws : List (BitVec 64)) (b t e : Nat) (p : SpAt w B s g v ws b t e) (hl : ws.length ≤ 8192) (l : List Nat) (ho : objF ws t (t + 1) b = some l) (hw : l.all (wellN ws l) = true) (A : Option Addr) (roots : List Int) (ca : Nat) (hr : Rd zV w w.heap.size A roots) (hrl : roots.length ≤ 100000) (hrw : ∀ r ∈ roots, kW r) (hra : roots.all (rootB l) = true) :
    Calls Try.prog 13 #[.pointer (some ⟨s, 0, none⟩), .slice A roots.length ca] w (RetP (match copyC ws 8192 (roots.map rootP) with
      | some (_, d) => .tuple #[.int .i64 d.top, .int .i64 0]
      | none => .tuple #[.int .i64 0, .int .i64 6]) w) := by
  have HC := Lib.hid (copy_c w B s g v ws b t e p hl l ho hw A roots ca hr hrl hrw hra 8192 (Nat.le_refl _))
  obtain ⟨n, hn⟩ : ∃ n, n = roots.length := ⟨_, rfl⟩
  rw [← hn] at HC ⊢
  obtain ⟨x, hx⟩ : ∃ x, x = copyC ws 8192 (roots.map rootP) := ⟨_, rfl⟩
  rw [← hx] at HC ⊢
  clear p hl ho hw hr hrl hrw hra hn hx
  cases x with
  | none =>
    have HC2 := Lib.hid (show Calls Try.prog 9 #[.pointer (some ⟨s, 0, none⟩), .slice A n ca, .int .i64 8192] w (RetP (.tuple #[.pointer none, .slice none 0 0, .int .i64 6]) w) from HC.out)
    go_enter Try.func13, Try.ntmps13
    go_wp2_with fail
    refine Calls.mono HC2.out ?_
    rintro r w2 ⟨rfl, b2⟩
    have HB2 := Lib.hid b2
    clear b2
    go_wp2_with fail
    go_ret2
    exact ⟨rfl, HB2.out⟩
  | some z =>
    obtain ⟨qs, d⟩ := z
    have HC2 := Lib.hid (show Calls Try.prog 9 #[.pointer (some ⟨s, 0, none⟩), .slice A n ca, .int .i64 8192] w (fun r w' => ∃ s' g' v' q, r = .returned (.tuple #[.pointer (some ⟨s', 0, none⟩), .slice (some ⟨q, 0, none⟩) n n, .int .i64 0]) ∧ SpAt w' w.heap.size s' g' v' d.T 0 d.top 8192 ∧ d.T.length = 8192 ∧ Ow zV 3 w' w.heap.size (.slice (some ⟨q, 0, none⟩) n n) (backZ qs) ∧ Below w.heap.size w w') from HC.out)
    go_enter Try.func13, Try.ntmps13
    go_wp2_with fail
    refine Calls.mono HC2.out ?_
    rintro r w2 ⟨s', g', v', q, rfl, h2, hl2, _, b2⟩
    have HB2 := Lib.hid b2
    have HU := Lib.hid (used_c w2 w.heap.size s' g' v' d.T 0 d.top 8192 h2 (by omega))
    have htop : (d.top : Int) ≤ 8192 := by have := h2.te; omega
    clear b2 h2 hl2
    go_wp2_with fail
    refine Calls.mono HU.out ?_
    rintro r w3 ⟨rfl, b3⟩
    have HB3 := Lib.hid (HB2.out.trans (b3.mono HB2.out.size))
    clear b3
    go_wp2_with fail
    go_ret2
    exact ⟨by simp, HB3.out⟩
def kS0 : List (BitVec 64) := List.replicate 20 0#64
def kS1 : List (BitVec 64) := allocW kS0 3 3 (packH 2 0 false 0)
def kS2 : List (BitVec 64) := allocW kS1 6 2 (packH 1 0 false 0)
def kS3 : List (BitVec 64) := kS2.set 7 (BitVec.ofNat 64 7)
theorem kS3_obj : objF kS3 8 9 3 = some [3, 6] := by decide +kernel
theorem kS3_well : [3, 6].all (wellN kS3 [3, 6]) = true := by decide +kernel
theorem kS3_len : kS3.length = 20 := by decide +kernel
theorem kS3_c1 : tellC (copyC kS3 10 [7, 0, 7]) = some ([1, 0, 1], 2, packH 1 0 false 0 :: 1#64 :: List.replicate 8 0#64) := by decide +kernel
theorem kS3_c2 : copyC kS3 1 [7] = none := by decide +kernel
theorem kS3_c3 : (tellC (copyC kS3 8192 [7])).map (fun r => r.2.1) = some 2 := by decide +kernel
end Go.Proofs.Ytlibcpboooehlaa
/- The reference's Copy where it says no; both copies side by side. Conditions: lengths. -/
namespace Go.Proofs.Ytlibcpboooehlaa
set_option linter.unusedVariables false
set_option linter.unusedSimpArgs false
open Go.RowKit Go.Maps
set_option maxHeartbeats 4000000
set_option maxRecDepth 100000
theorem rcopy_words (w : World) (R : Nat) (A2 : Option Addr) (n c2 : Nat) (words : Int) (h : words < 0 ∨ 8192 < words) :
    Calls Try.prog 10 #[.pointer (some ⟨R, 0, none⟩), .slice A2 n c2, .int .i64 words] w (RetP (.tuple #[.pointer none, .slice none 0 0, .int .i64 1]) w) := by
  go_enter Try.func10, Try.ntmps10
  by_cases h1 : words < 0
  · go_wp2_with fail
    go_ret3
    exact ⟨rfl, Below.refl _ _⟩
  · have h2 : 8192 < words := by omega
    go_wp2_with fail
    go_ret3
    exact ⟨rfl, Below.refl _ _⟩
theorem rcopy_bad (w : World) (R : Nat) (A : Option Addr) (c : Nat) (ws : List (BitVec 64)) (b t e : Nat) (p : RefAt w R A c ws b t e) (hbt : b ≤ t) (htw : t ≤ ws.length) (hl : ws.length ≤ 8192) (l : List Nat) (ho : objF ws t (t + 1) b = some l) (A2 : Option Addr) (roots : List Int) (c2 : Nat) (hr : Rd zV w w.heap.size A2 roots) (hrl : roots.length ≤ 100000) (m : Nat) (hm : m ≤ 8192) (hE : checkE ws b t roots ≠ 0) :
    Calls Try.prog 10 #[.pointer (some ⟨R, 0, none⟩), .slice A2 roots.length c2, .int .i64 m] w (RetP (.tuple #[.pointer none, .slice none 0 0, .int .i64 (checkE ws b t roots)]) w) := by
  have HWl := Lib.hid (rwell_c w R A c ws b t e p hbt htw hl)
  rw [well_some ho] at HWl
  have HRt := Lib.hid (fun W (hb : Below w.heap.size w W) => rroots_c W R A c ws b t e (p.below hb) hbt htw hl l ho A2 roots c2 ((hr.below hb).more hb.size) hrl)
  have m0 : (0 : Int) ≤ (m : Int) := by omega
  have m8 : (m : Int) ≤ 8192 := by omega
  unfold checkE at hE ⊢
  rw [ho] at hE ⊢
  simp only at hE ⊢
  obtain ⟨n, hn⟩ : ∃ n, n = roots.length := ⟨_, rfl⟩
  rw [← hn] at HRt ⊢
  by_cases hw : l.all (wellN ws l) = true
  · rw [if_pos hw] at HWl hE ⊢
    by_cases hra : roots.all (rootB l) = true
    · rw [if_pos hra] at hE; exact absurd rfl hE
    · rw [if_neg hra]
      have hrf : roots.all (rootB l) = false := by simpa using hra
      rw [hrf] at HRt
      clear p hbt htw hl ho hr hrl hE hw hra hrf hn
      go_enter Try.func10, Try.ntmps10
      go_wp2_with fail
      refine Calls.mono HWl.out ?_
      rintro r w1 ⟨rfl, b1⟩
      have H1 := Lib.hid b1
      clear b1
      go_wp2_with fail
      refine Calls.mono (HRt.out w1 H1.out) ?_
      rintro r w2 ⟨rfl, b2⟩
      have H2 := Lib.hid (H1.out.trans (b2.mono H1.out.size))
      clear b2
      go_wp2_with fail
      go_ret3
      exact ⟨rfl, H2.out⟩
  · rw [if_neg hw] at HWl ⊢
    clear p hbt htw hl ho hr hrl hE hw hn HRt
    go_enter Try.func10, Try.ntmps10
    go_wp2_with fail
    refine Calls.mono HWl.out ?_
    rintro r w1 ⟨rfl, b1⟩
    have H1 := Lib.hid b1
    clear b1
    go_wp2_with fail
    go_ret3
    exact ⟨rfl, H1.out⟩
theorem copy_errR (w : World) (s : Value) (A : Option Addr) (n c : Nat) (words E : Int) (hE : E ≠ 0) (HN : Hid (Calls Try.prog 25 #[s, .slice A n c, .int .i64 words] w (RetP (.tuple #[.pointer none, .int .i64 E]) w))) :
    Calls Try.prog 9 #[s, .slice A n c, .int .i64 words] w (RetP (.tuple #[.pointer none, .slice none 0 0, .int .i64 E]) w) := by
  go_enter Try.func9, Try.ntmps9
  go_wp2_with fail
  refine Calls.mono HN.out ?_
  rintro r w2 ⟨rfl, b2⟩
  have H2 := Lib.hid b2
  clear b2
  go_wp2_with fail
  go_ret3
  exact ⟨rfl, H2.out⟩
theorem live_err (w : World) (s : Value) (A : Option Addr) (n c : Nat) (E : Int) (hE : E ≠ 0) (HC : Hid (Calls Try.prog 9 #[s, .slice A n c, .int .i64 8192] w (RetP (.tuple #[.pointer none, .slice none 0 0, .int .i64 E]) w))) :
    Calls Try.prog 13 #[s, .slice A n c] w (RetP (.tuple #[.int .i64 0, .int .i64 E]) w) := by
  go_enter Try.func13, Try.ntmps13
  go_wp2_with fail
  refine Calls.mono HC.out ?_
  rintro r w2 ⟨rfl, b2⟩
  have HB2 := Lib.hid b2
  clear b2
  go_wp2_with fail
  go_ret2
  exact ⟨rfl, HB2.out⟩
section
variable {w : World} {B s g R : Nat} {v : Value} {ws : List (BitVec 64)} {b t e : Nat} {A : Option Addr} {c : Nat} {l : List Nat} {A2 : Option Addr} {roots : List Int} {c2 : Nat}
/-- Both copies: the same error, or the same copy. -/
theorem cp_both (p : SpAt w B s g v ws b t e) (q : RefAt w R A c ws b t e) (hl : ws.length ≤ 8192) (ho : objF ws t (t + 1) b = some l) (hr : Rd zV w w.heap.size A2 roots) (hrl : roots.length ≤ 100000) (hrw : ∀ r ∈ roots, kW r) (words : Int) (hk : kW words) :
    (∃ E : Int, E ≠ 0 ∧ (∀ W, Below w.heap.size w W → Calls Try.prog 9 #[.pointer (some ⟨s, 0, none⟩), .slice A2 roots.length c2, .int .i64 words] W (RetP (.tuple #[.pointer none, .slice none 0 0, .int .i64 E]) W)) ∧ (∀ W, Below w.heap.size w W → Calls Try.prog 10 #[.pointer (some ⟨R, 0, none⟩), .slice A2 roots.length c2, .int .i64 words] W (RetP (.tuple #[.pointer none, .slice none 0 0, .int .i64 E]) W))) ∨
    (∃ (qs : List Nat) (d : Cy) (m : Nat), words = (m : Int) ∧ m ≤ 8192 ∧ (∀ W, Below w.heap.size w W → Calls Try.prog 9 #[.pointer (some ⟨s, 0, none⟩), .slice A2 roots.length c2, .int .i64 words] W (CopyR W m roots.length (some (qs, d)))) ∧ (∀ W, Below w.heap.size w W → Calls Try.prog 10 #[.pointer (some ⟨R, 0, none⟩), .slice A2 roots.length c2, .int .i64 words] W (RCopyR W m roots.length (some (qs, d))))) := by
  have hbt := p.bt
  have htw : t ≤ ws.length := Nat.le_trans p.te p.el
  by_cases hw : words < 0 ∨ 8192 < words
  · exact .inl ⟨1, by decide, fun W _ => copy_errR W _ A2 _ c2 words 1 (by decide) (Lib.hid (cnew_words W _ A2 _ c2 words hw hk)), fun W _ => rcopy_words W R A2 _ c2 words hw⟩
  · obtain ⟨m, rfl⟩ : ∃ m : Nat, words = (m : Int) := ⟨words.toNat, by omega⟩
    have hm : m ≤ 8192 := by omega
    by_cases hE : checkE ws b t roots = 0
    · have h1 : l.all (wellN ws l) = true ∧ roots.all (rootB l) = true := by
        unfold checkE at hE
        rw [ho] at hE
        simp only at hE
        by_cases h1 : l.all (wellN ws l) = true
        · rw [if_pos h1] at hE
          by_cases h2 : roots.all (rootB l) = true
          · exact ⟨h1, h2⟩
          · rw [if_neg h2] at hE; cases hE
        · rw [if_neg h1] at hE; cases hE
      have k1 := fun W (hb : Below w.heap.size w W) => copy_c W B s g v ws b t e (p.below hb) hl l ho h1.1 A2 roots c2 ((hr.below hb).more hb.size) hrl hrw h1.2 m hm
      have k2 := fun W (hb : Below w.heap.size w W) => rcopy_ok W R A c ws b t e (q.below hb) hbt htw hl l ho h1.1 A2 roots c2 ((hr.below hb).more hb.size) hrl h1.2 m hm
      cases hc : copyC ws m (roots.map rootP) with
      | none =>
        rw [hc] at k1 k2
        exact .inl ⟨6, by decide, k1, k2⟩
      | some z =>
        obtain ⟨qs, d⟩ := z
        rw [hc] at k1 k2
        exact .inr ⟨qs, d, m, rfl, hm, k1, k2⟩
    · exact .inl ⟨_, hE, fun W hb => copy_errR W _ A2 _ c2 m _ hE (Lib.hid (cnew_err W B s g v ws b t e (p.below hb) hl A2 roots c2 ((hr.below hb).more hb.size) hrl hrw m hm hE)), fun W hb => rcopy_bad W R A c ws b t e (q.below hb) hbt htw hl l ho A2 roots c2 ((hr.below hb).more hb.size) hrl m hm hE⟩
/-- Live, and the reference's copy into the largest space. -/
theorem lv_both (p : SpAt w B s g v ws b t e) (q : RefAt w R A c ws b t e) (hl : ws.length ≤ 8192) (ho : objF ws t (t + 1) b = some l) (hr : Rd zV w w.heap.size A2 roots) (hrl : roots.length ≤ 100000) (hrw : ∀ r ∈ roots, kW r) :
    (∃ E : Int, E ≠ 0 ∧ (∀ W, Below w.heap.size w W → Calls Try.prog 13 #[.pointer (some ⟨s, 0, none⟩), .slice A2 roots.length c2] W (RetP (.tuple #[.int .i64 0, .int .i64 E]) W)) ∧ (∀ W, Below w.heap.size w W → Calls Try.prog 10 #[.pointer (some ⟨R, 0, none⟩), .slice A2 roots.length c2, .int .i64 8192] W (RetP (.tuple #[.pointer none, .slice none 0 0, .int .i64 E]) W))) ∨
    (∃ (qs : List Nat) (d : Cy), (∀ W, Below w.heap.size w W → Calls Try.prog 13 #[.pointer (some ⟨s, 0, none⟩), .slice A2 roots.length c2] W (RetP (.tuple #[.int .i64 d.top, .int .i64 0]) W)) ∧ (∀ W, Below w.heap.size w W → Calls Try.prog 10 #[.pointer (some ⟨R, 0, none⟩), .slice A2 roots.length c2, .int .i64 8192] W (RCopyR W 8192 roots.length (some (qs, d))))) := by
  have hbt := p.bt
  have htw : t ≤ ws.length := Nat.le_trans p.te p.el
  by_cases hE : checkE ws b t roots = 0
  · have h1 : l.all (wellN ws l) = true ∧ roots.all (rootB l) = true := by
      unfold checkE at hE
      rw [ho] at hE
      simp only at hE
      by_cases h1 : l.all (wellN ws l) = true
      · rw [if_pos h1] at hE
        by_cases h2 : roots.all (rootB l) = true
        · exact ⟨h1, h2⟩
        · rw [if_neg h2] at hE; cases hE
      · rw [if_neg h1] at hE; cases hE
    have k1 := fun W (hb : Below w.heap.size w W) => live_c W B s g v ws b t e (p.below hb) hl l ho h1.1 A2 roots c2 ((hr.below hb).more hb.size) hrl hrw h1.2
    have k2 := fun W (hb : Below w.heap.size w W) => rcopy_ok W R A c ws b t e (q.below hb) hbt htw hl l ho h1.1 A2 roots c2 ((hr.below hb).more hb.size) hrl h1.2 8192 (Nat.le_refl _)
    cases hc : copyC ws 8192 (roots.map rootP) with
    | none =>
      rw [hc] at k1 k2
      exact .inl ⟨6, by decide, k1, k2⟩
    | some z =>
      obtain ⟨qs, d⟩ := z
      rw [hc] at k1 k2
      exact .inr ⟨qs, d, k1, k2⟩
  · exact .inl ⟨_, hE, fun W hb => live_err W _ A2 _ c2 _ hE (Lib.hid (copy_errR W _ A2 _ c2 (8192 : Nat) _ hE (Lib.hid (cnew_err W B s g v ws b t e (p.below hb) hl A2 roots c2 ((hr.below hb).more hb.size) hrl hrw 8192 (Nat.le_refl _) hE)))), fun W hb => rcopy_bad W R A c ws b t e (q.below hb) hbt htw hl l ho A2 roots c2 ((hr.below hb).more hb.size) hrl 8192 (Nat.le_refl _) hE⟩
end
end Go.Proofs.Ytlibcpboooehlaa
/- known of layer 21 returns true. No conditions. -/
namespace Go.Proofs.Ytlibcpboooehlaa
set_option linter.unusedVariables false
set_option linter.unusedSimpArgs false
open Go.RowKit Go.Maps
set_option maxHeartbeats 4000000
set_option maxRecDepth 100000
theorem kS_lens : kS0.length = 20 ∧ kS1.length = 20 ∧ kS2.length = 20 := by decide +kernel
theorem k21_a (w : World) (B s g : Nat) (v : Value) (h : SpAt w B s g v kS0 3 3 20) : Calls Try.prog 18 #[.pointer (some ⟨s, 0, none⟩), .agg #[.int .i64 2, .int .i64 0, .bool false, .int .i64 0]] w fun r w' => r = .returned (.tuple #[.int .i64 3, .int .i64 0]) ∧ SpAt w' B s g v kS1 3 6 20 ∧ Below B w w' :=
  alloc_ok w B s g v kS0 3 3 20 h (by rw [kS_lens.1]; decide) 2 0 0 3 (by decide) (by decide) (by decide) (by decide)
theorem k21_b (w : World) (B s g : Nat) (v : Value) (h : SpAt w B s g v kS1 3 6 20) : Calls Try.prog 18 #[.pointer (some ⟨s, 0, none⟩), .agg #[.int .i64 1, .int .i64 0, .bool false, .int .i64 0]] w fun r w' => r = .returned (.tuple #[.int .i64 6, .int .i64 0]) ∧ SpAt w' B s g v kS2 3 8 20 ∧ Below B w w' :=
  alloc_ok w B s g v kS1 3 6 20 h (by rw [kS_lens.2.1]; decide) 1 0 0 2 (by decide) (by decide) (by decide) (by decide)
theorem kS2_good : goodX (kS2.getD 6 0#64) (8 - 6) = true ∧ 0 < P0 (kS2.getD 6 0#64) := by decide +kernel
theorem k21_s (w : World) (B s g : Nat) (v : Value) (h : SpAt w B s g v kS2 3 8 20) : Calls Try.prog 19 #[.pointer (some ⟨s, 0, none⟩), .int .i64 6, .int .i64 0, .int .i64 6] w fun r w' => r = .returned (.int .i64 0) ∧ SpAt w' B s g v kS3 3 8 20 ∧ Below B w w' :=
  (setptr_to w B s g v kS2 3 8 20 h (by rw [kS_lens.2.2]; decide) 6 0 6 (by decide) (by decide) kS2_good.1 kS2_good.2 (by decide) (by decide)).mono fun r w' ⟨h1, h2, _, h4⟩ => ⟨h1, h2, h4⟩
theorem rd_zs {w : World} {k : Nat} {E : TypeId} {xs : List Int} (h : Bk w k E (xs.map zV).toArray) : Rd zV w w.heap.size (some ⟨k, 0, none⟩) xs := fun j hj => by
  refine ⟨⟨k, 0, none⟩, rfl, h.lt, ?_⟩
  have h2 := h.cell j
  rw [show (⟨k, 0, none⟩ : Addr).add (j : Nat) = ⟨k, j, none⟩ from by simp [Addr.add]; exact fun h => h.symm]
  rw [h2]
  simp [hj]
theorem k21_c1 : ∃ d, copyC kS3 10 [7, 0, 7] = some ([1, 0, 1], d) ∧ d.top = 2 ∧ d.T = packH 1 0 false 0 :: 1#64 :: List.replicate 8 0#64 := by
  have h := kS3_c1
  cases hc : copyC kS3 10 [7, 0, 7] with
  | none => rw [hc] at h; cases h
  | some z =>
    obtain ⟨qs, d⟩ := z
    rw [hc] at h
    unfold tellC at h
    simp only [Option.map_some, Option.some.injEq, Prod.mk.injEq] at h
    exact ⟨d, by rw [h.1], h.2.1, h.2.2⟩
theorem k21_c3 : ∃ qs d, copyC kS3 8192 [7] = some (qs, d) ∧ d.top = 2 := by
  have h := kS3_c3
  cases hc : copyC kS3 8192 [7] with
  | none => rw [hc] at h; cases h
  | some z =>
    obtain ⟨qs, d⟩ := z
    rw [hc] at h
    unfold tellC at h
    simp only [Option.map_some, Option.some.injEq] at h
    exact ⟨qs, d, rfl, h⟩
theorem k21_kw : ∀ r ∈ [(6 : Int), -1, 6], kW r := by
  intro r hr
  simp only [List.mem_cons, List.not_mem_nil, or_false] at hr
  rcases hr with rfl | rfl | rfl <;> (unfold kW; decide)
theorem k21_p (w : World) (B s g : Nat) (v : Value) (T : List (BitVec 64)) (hT : T = packH 1 0 false 0 :: 1#64 :: List.replicate 8 0#64) (h : SpAt w B s g v T 0 2 10) : Calls Try.prog 20 #[.pointer (some ⟨s, 0, none⟩), .int .i64 0, .int .i64 0] w (RetP (.tuple #[.int .i64 0, .int .i64 0]) w) := by
  subst hT
  have e1 : goodX ((packH 1 0 false 0 :: 1#64 :: List.replicate 8 0#64).getD 0 0#64) (2 - 0) = true := by decide +kernel
  have e2 : 0 < P0 ((packH 1 0 false 0 :: 1#64 :: List.replicate 8 0#64).getD 0 0#64) := by decide +kernel
  have e3 : ptV 0 2 ((packH 1 0 false 0 :: 1#64 :: List.replicate 8 0#64).getD (0 + 1 + 0) 0#64) = 0 ∧ ptE 0 2 ((packH 1 0 false 0 :: 1#64 :: List.replicate 8 0#64).getD (0 + 1 + 0) 0#64) = 0 := by decide +kernel
  have h1 := Ptr_c w B s g v _ 0 2 10 h (by simp) 0 0 (by decide) (by decide) e1 e2
  rw [e3.1, e3.2] at h1
  exact h1
theorem known21_c (w : World) : Calls Try.prog 7 #[] w (RetP (.bool true) w) := by
  obtain ⟨d1, c1, t1, u1⟩ := k21_c1
  obtain ⟨q3, d3, c3, t3⟩ := k21_c3
  have HN := Lib.hid (new_in w 20 (by decide))
  have HS := Lib.hid (fun W g v (h : MemAt W w.heap.size g v kS0) => snew_in W w.heap.size g v kS0 3 20 h (by decide) (by rw [kS_lens.1]; decide) (by rw [kS_lens.1]; decide))
  have HA := Lib.hid (fun W s g v (h : SpAt W w.heap.size s g v kS0 3 3 20) => k21_a W w.heap.size s g v h)
  have HB := Lib.hid (fun W s g v (h : SpAt W w.heap.size s g v kS1 3 6 20) => k21_b W w.heap.size s g v h)
  have HP := Lib.hid (fun W s g v (h : SpAt W w.heap.size s g v kS2 3 8 20) => k21_s W w.heap.size s g v h)
  have HC1 := Lib.hid (fun W s g v (h : SpAt W w.heap.size s g v kS3 3 8 20) A ca (hr : Rd zV W W.heap.size A [6, -1, 6]) => show Calls Try.prog 9 #[.pointer (some ⟨s, 0, none⟩), .slice A 3 ca, .int .i64 10] W _ from copy_c W w.heap.size s g v kS3 3 8 20 h (by rw [kS3_len]; decide) [3, 6] kS3_obj kS3_well A [6, -1, 6] ca hr (by decide) k21_kw (by decide) 10 (by decide))
  have HC2 := Lib.hid (fun W s g v (h : SpAt W w.heap.size s g v kS3 3 8 20) A ca (hr : Rd zV W W.heap.size A [6]) => show Calls Try.prog 9 #[.pointer (some ⟨s, 0, none⟩), .slice A 1 ca, .int .i64 1] W _ from copy_c W w.heap.size s g v kS3 3 8 20 h (by rw [kS3_len]; decide) [3, 6] kS3_obj kS3_well A [6] ca hr (by decide) (fun r hr => k21_kw r (by simp at hr; simp [hr])) (by decide) 1 (by decide))
  have HLv := Lib.hid (fun W s g v (h : SpAt W w.heap.size s g v kS3 3 8 20) A ca (hr : Rd zV W W.heap.size A [6]) => show Calls Try.prog 13 #[.pointer (some ⟨s, 0, none⟩), .slice A 1 ca] W _ from live_c W w.heap.size s g v kS3 3 8 20 h (by rw [kS3_len]; decide) [3, 6] kS3_obj kS3_well A [6] ca hr (by decide) (fun r hr => k21_kw r (by simp at hr; simp [hr])) (by decide))
  have f1 : copyC kS3 10 ([6, -1, 6].map rootP) = some ([1, 0, 1], d1) := c1
  have f2 : copyC kS3 1 ([6].map rootP) = none := kS3_c2
  have f3 : copyC kS3 8192 ([6].map rootP) = some (q3, d3) := c3
  simp only [f1] at HC1
  simp only [f2] at HC2
  simp only [f3, t3] at HLv
  have HT1 := Lib.hid (And.intro t1 u1)
  clear c1 c3 t1 u1 t3 f1 f2 f3
  go_enter Try.func7, Try.ntmps7
  go_wp2_with fail
  refine Calls.mono HN.out ?_
  rintro r w2 ⟨g, v, rfl, hm2, b2⟩
  have H2 := Lib.hid (And.intro hm2 b2)
  clear hm2 b2
  go_wp2_with fail
  refine Calls.mono (HS.out w2 g v H2.out.1) ?_
  rintro r w3 ⟨s, rfl, hp3, b3⟩
  have H3 := Lib.hid (And.intro hp3 (H2.out.2.trans (b3.mono H2.out.2.size)))
  have c0 := hp3.four.1
  clear hp3 b3
  go_wp2_with fail
  refine Calls.mono (HA.out w3 s g v H3.out.1) ?_
  rintro r w4 ⟨rfl, hp4, b4⟩
  have H4 := Lib.hid (And.intro hp4 (H3.out.2.trans b4))
  clear hp4 b4 c0
  go_wp2_with fail
  refine Calls.mono (HB.out w4 s g v H4.out.1) ?_
  rintro r w5 ⟨rfl, hp5, b5⟩
  have H5 := Lib.hid (And.intro hp5 (H4.out.2.trans b5))
  clear hp5 b5
  go_wp2_with fail
  refine Calls.mono (HP.out w5 s g v H5.out.1) ?_
  rintro r w6 ⟨rfl, hp6, b6⟩
  have H6 := Lib.hid (And.intro hp6 (H5.out.2.trans b6))
  clear hp6 b6
  go_wp2_with fail
  have hb7 := Gw.alloc w6 (.cells #[.int .i64 6, .int .i64 (-1), .int .i64 6] 3)
  have hr7 := rd_zs (xs := [6, -1, 6]) (Bk.new w6 3 #[.int .i64 6, .int .i64 (-1), .int .i64 6])
  have H7 := Lib.hid (And.intro (H6.out.1.below hb7) (H6.out.2.alloc H6.out.2.size (.cells #[.int .i64 6, .int .i64 (-1), .int .i64 6] 3)))
  refine Calls.mono (HC1.out _ s g v H7.out.1 _ _ hr7) ?_
  rintro r w8 ⟨s', g', v', q, rfl, hp8, hl8, ho8, b8⟩
  have c8 := hp8.four.1
  have e0 := ho8.cell (j := 0) (by decide)
  have e1 := ho8.cell (j := 1) (by decide)
  have e2 := ho8.cell (j := 2) (by decide)
  have hq8 := ho8.ge.2
  rw [HT1.out.1] at hp8
  have ct := hp8.four.2.2.1
  have H8 := Lib.hid (And.intro (H7.out.1.below b8) (And.intro hp8 (H7.out.2.trans (b8.mono H7.out.2.size))))
  have hs8 := hp8.blk.lt
  clear hb7 hr7 H7 b8 hl8 ho8 hp8
  go_wp2_with fail
  refine Calls.mono (k21_p w8 _ s' g' v' d1.T HT1.out.2 H8.out.2.1) ?_
  rintro r w9 ⟨rfl, b9⟩
  have H9 := Lib.hid (And.intro (H8.out.1.below b9) (And.intro (H8.out.2.1.below b9) (H8.out.2.2.trans (b9.mono H8.out.2.2.size))))
  have e0' := (b9.cell (p := ⟨q, 0, none⟩) hq8).trans e0
  have e1' := (b9.cell (p := ⟨q, 1, none⟩) hq8).trans e1
  have e2' := (b9.cell (p := ⟨q, 2, none⟩) hq8).trans e2
  have ct' := (b9.cell (p := ⟨s', 2, none⟩) hs8).trans ct
  have hq9 := Nat.lt_of_lt_of_le hq8 b9.size
  have hs9 := Nat.lt_of_lt_of_le hs8 b9.size
  clear e0 e1 e2 ct c8 b9 hq8 hs8
  go_wp2_with fail
  have hb10 := Gw.alloc w9 (.cells #[.int .i64 6] 3)
  have hr10 := rd_zs (xs := [6]) (Bk.new w9 3 #[.int .i64 6])
  have H10 := Lib.hid (And.intro (H9.out.1.below hb10) (And.intro (H9.out.2.1.below hb10) (H9.out.2.2.alloc H9.out.2.2.size (.cells #[.int .i64 6] 3))))
  refine Calls.mono (HLv.out _ s g v H10.out.1 _ _ hr10) ?_
  rintro r w11 ⟨rfl, b11⟩
  have b11' := hb10.trans (b11.mono hb10.size)
  have e0 := (b11'.cell (p := ⟨q, 0, none⟩) hq9).trans e0'
  have e1 := (b11'.cell (p := ⟨q, 1, none⟩) hq9).trans e1'
  have e2 := (b11'.cell (p := ⟨q, 2, none⟩) hq9).trans e2'
  have ct := (b11'.cell (p := ⟨s', 2, none⟩) hs9).trans ct'
  have hq11 := Nat.lt_of_lt_of_le hq9 b11'.size
  have hs11 := Nat.lt_of_lt_of_le hs9 b11'.size
  have H11 := Lib.hid (And.intro (H10.out.1.below b11) (H10.out.2.2.trans (b11.mono H10.out.2.2.size)))
  clear e0' e1' e2' ct' b11 b11' hb10 hr10 hq9 hs9
  go_wp2_with fail
  have hb12 := Gw.alloc w11 (.cells #[.int .i64 6] 3)
  have hr12 := rd_zs (xs := [6]) (Bk.new w11 3 #[.int .i64 6])
  have H12 := Lib.hid (And.intro (H11.out.1.below hb12) (H11.out.2.alloc H11.out.2.size (.cells #[.int .i64 6] 3)))
  refine Calls.mono (HC2.out _ s g v H12.out.1 _ _ hr12) ?_
  rintro r w13 ⟨rfl, b13⟩
  have b13' := hb12.trans (b13.mono hb12.size)
  have e0' := (b13'.cell (p := ⟨q, 0, none⟩) hq11).trans e0
  have e1' := (b13'.cell (p := ⟨q, 1, none⟩) hq11).trans e1
  have e2' := (b13'.cell (p := ⟨q, 2, none⟩) hq11).trans e2
  have ct' := (b13'.cell (p := ⟨s', 2, none⟩) hs11).trans ct
  have H13 := Lib.hid (H12.out.2.trans (b13.mono H12.out.2.size))
  have z0 : zV ((backZ [1, 0, 1])[0]'(by decide)) = .int .i64 0 := rfl
  have z1 : zV ((backZ [1, 0, 1])[1]'(by decide)) = .int .i64 (-1) := rfl
  have z2 : zV ((backZ [1, 0, 1])[2]'(by decide)) = .int .i64 0 := rfl
  rw [z0] at e0'
  rw [z1] at e1'
  rw [z2] at e2'
  clear e0 e1 e2 ct b13 b13' hb12 hr12 hq11 hs11 z0 z1 z2
  go_wp2_with fail
  go_ret
  exact ⟨rfl, H13.out⟩
end Go.Proofs.Ytlibcpboooehlaa
/- loamlaw16.To: words as a space, or none. Conditions: lengths. -/
namespace Go.Proofs.Ytlibcpboooehlaa
set_option linter.unusedVariables false
set_option linter.unusedSimpArgs false
open Go.RowKit
set_option maxHeartbeats 1000000
set_option maxRecDepth 100000
/-- Is there no such space? -/
def toN (ws : List (BitVec 64)) (b t e : Int) : Prop := (b < 0 ∨ (¬ b < 0 ∧ t < b) ∨ (¬ b < 0 ∧ ¬ t < b ∧ e < t) ∨ (¬ b < 0 ∧ ¬ t < b ∧ ¬ e < t ∧ (ws.length : Int) < e))
theorem to_out (w : World) (A : Option Addr) (ws : List (BitVec 64)) (c : Nat) (hr : Rd u64v w w.heap.size A ws) (hl : ws.length ≤ 8192) (b t e : Int) (ho : toN ws b t e) : Calls Try.prog 8 #[.slice A ws.length c, .int .i64 b, .int .i64 t, .int .i64 e] w (RetP (.pointer none) w) := by
  have HMem := Lib.hid (mem15_c w A c ws hr hl)
  have HOf := Lib.hid (fun W B g v (h : MemAt W B g v ws) => sof_out W (.pointer (some ⟨g, 0, none⟩)) b t e (bare_out W B g v ws b t e h ho))
  obtain ⟨N, hN⟩ : ∃ N, N = ws.length := ⟨_, rfl⟩
  rw [← hN] at HMem ⊢
  clear hr hl hN ho
  go_enter Try.func8, Try.ntmps8
  go_wp2_with fail
  refine Calls.mono HMem.out ?_
  rintro r w2 ⟨g, v, rfl, h2, b2⟩
  have HM2 := Lib.hid (HOf.out w2 _ g v h2)
  have HB2 := Lib.hid b2
  clear h2 b2
  go_wp2_with fail
  refine Calls.mono HM2.out ?_
  rintro r w3 ⟨rfl, rfl⟩
  go_wp2_with fail
  go_ret
  exact ⟨rfl, HB2.out⟩
theorem to_none (w : World) (A : Option Addr) (ws : List (BitVec 64)) (c : Nat) (hr : Rd u64v w w.heap.size A ws) (hl : ws.length ≤ 8192) (b t e : Nat) (hbt : b ≤ t) (hte : t ≤ e) (hel : e ≤ ws.length) (ho : objF ws t (t + 1) b = none) : Calls Try.prog 8 #[.slice A ws.length c, .int .i64 b, .int .i64 t, .int .i64 e] w (RetP (.pointer none) w) := by
  have HMem := Lib.hid (mem15_c w A c ws hr hl)
  have HOf := Lib.hid (fun W B g v (h : MemAt W B g v ws) => sof_none W B g v ws b t e h hbt hte hel (by omega) ho)
  obtain ⟨N, hN⟩ : ∃ N, N = ws.length := ⟨_, rfl⟩
  rw [← hN] at HMem ⊢
  clear hr hl hN ho hbt hte hel
  go_enter Try.func8, Try.ntmps8
  go_wp2_with fail
  refine Calls.mono HMem.out ?_
  rintro r w2 ⟨g, v, rfl, h2, b2⟩
  have HM2 := Lib.hid (HOf.out w2 _ g v h2)
  have HB2 := Lib.hid b2
  clear h2 b2
  go_wp2_with fail
  refine Calls.mono HM2.out ?_
  rintro r w3 ⟨rfl, b3⟩
  have HB3 := Lib.hid (HB2.out.trans (b3.mono HB2.out.size))
  clear b3
  go_wp2_with fail
  go_ret
  exact ⟨rfl, HB3.out⟩
theorem to_some (w : World) (A : Option Addr) (ws : List (BitVec 64)) (c : Nat) (hr : Rd u64v w w.heap.size A ws) (hl : ws.length ≤ 8192) (b t e : Nat) (hbt : b ≤ t) (hte : t ≤ e) (hel : e ≤ ws.length) (l : List Nat) (ho : objF ws t (t + 1) b = some l) : Calls Try.prog 8 #[.slice A ws.length c, .int .i64 b, .int .i64 t, .int .i64 e] w fun r w' => ∃ s g v, r = .returned (.pointer (some ⟨s, 0, none⟩)) ∧ SpAt w' w.heap.size s g v ws b t e ∧ Below w.heap.size w w' := by
  have HMem := Lib.hid (mem15_c w A c ws hr hl)
  have HOf := Lib.hid (fun W B g v (h : MemAt W B g v ws) => sof_some W B g v ws b t e h hbt hte hel (by omega) l ho)
  obtain ⟨N, hN⟩ : ∃ N, N = ws.length := ⟨_, rfl⟩
  rw [← hN] at HMem ⊢
  clear hr hl hN ho hbt hte hel
  go_enter Try.func8, Try.ntmps8
  go_wp2_with fail
  refine Calls.mono HMem.out ?_
  rintro r w2 ⟨g, v, rfl, h2, b2⟩
  have HM2 := Lib.hid (HOf.out w2 _ g v h2)
  have HB2 := Lib.hid b2
  clear h2 b2
  go_wp2_with fail
  refine Calls.mono HM2.out ?_
  rintro r w3 ⟨s, rfl, h3, b3⟩
  have HB3 := Lib.hid (And.intro h3 (HB2.out.trans (b3.mono HB2.out.size)))
  clear b3 h3
  go_wp2_with fail
  go_ret
  exact ⟨s, g, v, rfl, HB3.out.1, HB3.out.2⟩
/-- What To makes of words. -/
def toP (ws : List (BitVec 64)) (b t e : Int) (w : World) (r : Ending) (w' : World) : Prop :=
  (r = .returned (.pointer none) ∧ Below w.heap.size w w') ∨ ∃ (B T E : Nat) (s g : Nat) (v : Value) (l : List Nat), b = (B : Int) ∧ t = (T : Int) ∧ e = (E : Int) ∧ B ≤ T ∧ T ≤ E ∧ E ≤ ws.length ∧ objF ws T (T + 1) B = some l ∧ r = .returned (.pointer (some ⟨s, 0, none⟩)) ∧ SpAt w' w.heap.size s g v ws B T E ∧ Below w.heap.size w w'
theorem to_c (w : World) (A : Option Addr) (ws : List (BitVec 64)) (c : Nat) (hr : Rd u64v w w.heap.size A ws) (hl : ws.length ≤ 8192) (b t e : Int) : Calls Try.prog 8 #[.slice A ws.length c, .int .i64 b, .int .i64 t, .int .i64 e] w (toP ws b t e w) := by
  by_cases ho : toN ws b t e
  · exact (to_out w A ws c hr hl b t e ho).mono fun r w' h => .inl h
  · unfold toN at ho
    obtain ⟨B, rfl⟩ : ∃ k : Nat, b = (k : Int) := ⟨b.toNat, by omega⟩
    obtain ⟨T, rfl⟩ : ∃ k : Nat, t = (k : Int) := ⟨t.toNat, by omega⟩
    obtain ⟨E, rfl⟩ : ∃ k : Nat, e = (k : Int) := ⟨e.toNat, by omega⟩
    cases h : objF ws T (T + 1) B with
    | none => exact (to_none w A ws c hr hl B T E (by omega) (by omega) (by omega) h).mono fun r w' h => .inl h
    | some l => exact (to_some w A ws c hr hl B T E (by omega) (by omega) (by omega) l h).mono fun r w' ⟨s, g, v, h1, h2, h3⟩ => .inr ⟨B, T, E, s, g, v, l, rfl, rfl, rfl, by omega, by omega, by omega, h, h1, h2, h3⟩
end Go.Proofs.Ytlibcpboooehlaa
/- loamlaw15.Ints of two rows that are alike. Conditions: lengths. -/
namespace Go.Proofs.Ytlibcpboooehlaa
set_option linter.unusedVariables false
set_option linter.unusedSimpArgs false
open Go.RowKit Go.Maps
set_option maxHeartbeats 1000000
set_option maxRecDepth 100000
theorem inz_r (Q : Exit → Act → World → Prop) (a0 : Act) (w : World) (a b : Addr) (N j c1 c2 : Nat) (z : Int) (h1 : a.block < w.heap.size) (h2 : b.block < w.heap.size) (k1 : w.cell? (a.add j) = some (.int .i64 z)) (k2 : w.cell? (b.add j) = some (.int .i64 z)) (p1 : (0 : Int) ≤ (j : Int)) (p2 : (j : Int) < (N : Int)) (hsz : a0.tmps.size = 26) (sl0 : a0.tmps.getD 0 undef = .slice (some a) N c1) (sl1 : a0.tmps.getD 1 undef = .slice (some b) N c2) (sl5 : a0.tmps.getD 5 undef = .int .i64 j)
    (fin : ∀ (vals : Nat → Value) (w1 : World), Below w.heap.size w w1 → (IsV (.bool false)) (vals 8) w1 → Q .normal (putD vals [17, 18, 19, 20, 21, 22, 23, 24, 25] 0 a0) w1) :
    (Code.region 6 (regIn Try.f38 6) true).wp Try.prog Q a0 w := by
  refine region_by (G := fun w w1 => Below w.heap.size w w1) [IsV (.slice (some a) N c1),
    IsV (.int .i64 j),
    IsV (.pointer (some (a.add j))),
    IsV (.int .i64 z),
    IsV (.slice (some b) N c2),
    IsV (.int .i64 j),
    IsV (.pointer (some (b.add j))),
    IsV (.int .i64 z),
    IsV (.bool false)]
    [17, 18, 19, 20, 21, 22, 23, 24, 25] (by kernel_rfl) (Gw.drew _) Gw.trans (by rw [hsz]; kernel_rfl) (by kernel_rfl) ?_ ?_ ?_
  · intro f hf
    simp only [List.mem_cons, List.not_mem_nil, or_false] at hf
    rcases hf with rfl | rfl | rfl | rfl | rfl | rfl | rfl | rfl | rfl <;> intro v a b h g <;> first | exact IsV.mono h
  · refine ⟨?_, ?_, ?_, ?_, ?_, ?_, ?_, ?_, ?_, trivial⟩
    · exact owes_mv 0 (by kernel_rfl) (by kernel_rfl) (by kernel_rfl) sl0 (fun _ => rfl)
    · exact owes_mv 5 (by kernel_rfl) (by kernel_rfl) (by kernel_rfl) sl5 (fun _ => rfl)
    · refine owes_v (Go.Op.indexAddr 23 (Go.Operand.tmp 17) (Go.Operand.tmp 18)) 0 [0, 1] (by kernel_rfl) (by kernel_rfl) (by kernel_rfl) rfl fun vals w1 ρ hG hF hρ hcst hfun => ?_
      have e17 : ρ (.tmp 17) = .slice (some a) N c1 := ((hρ 17).trans (slotJ [0, 1] (by rw [hsz]; decide) (by kernel_rfl))).trans (hF 0 (by decide))
      have e18 : ρ (.tmp 18) = .int .i64 j := ((hρ 18).trans (slotJ [0, 1] (by rw [hsz]; decide) (by kernel_rfl))).trans (hF 1 (by decide))
      clear hρ hF hcst hfun sl0 sl1 sl5 fin
      exact opv_val (by go_simp <;> rfl) ⟨gw_self _, rfl⟩
    · refine owes_v (Go.Op.load 3 (Go.Operand.tmp 19)) 3 [2] (by kernel_rfl) (by kernel_rfl) (by kernel_rfl) rfl fun vals w1 ρ hG hF hρ hcst hfun => ?_
      have e19 : ρ (.tmp 19) = .pointer (some (a.add j)) := ((hρ 19).trans (slotJ [2] (by rw [hsz]; decide) (by kernel_rfl))).trans (hF 2 (by decide))
      have k := (hG.cell (p := a.add j) (by rw [add_block]; exact h1)).trans k1
      clear hρ hF hcst hfun sl0 sl1 sl5 fin
      exact opv_val (by go_simp <;> rfl) ⟨gw_self _, rfl⟩
    · exact owes_mv 1 (by kernel_rfl) (by kernel_rfl) (by kernel_rfl) sl1 (fun _ => rfl)
    · exact owes_mv 5 (by kernel_rfl) (by kernel_rfl) (by kernel_rfl) sl5 (fun _ => rfl)
    · refine owes_v (Go.Op.indexAddr 23 (Go.Operand.tmp 21) (Go.Operand.tmp 22)) 0 [4, 5] (by kernel_rfl) (by kernel_rfl) (by kernel_rfl) rfl fun vals w1 ρ hG hF hρ hcst hfun => ?_
      have e21 : ρ (.tmp 21) = .slice (some b) N c2 := ((hρ 21).trans (slotJ [4, 5] (by rw [hsz]; decide) (by kernel_rfl))).trans (hF 4 (by decide))
      have e22 : ρ (.tmp 22) = .int .i64 j := ((hρ 22).trans (slotJ [4, 5] (by rw [hsz]; decide) (by kernel_rfl))).trans (hF 5 (by decide))
      clear hρ hF hcst hfun sl0 sl1 sl5 fin
      exact opv_val (by go_simp <;> rfl) ⟨gw_self _, rfl⟩
    · refine owes_v (Go.Op.load 3 (Go.Operand.tmp 23)) 3 [6] (by kernel_rfl) (by kernel_rfl) (by kernel_rfl) rfl fun vals w1 ρ hG hF hρ hcst hfun => ?_
      have e23 : ρ (.tmp 23) = .pointer (some (b.add j)) := ((hρ 23).trans (slotJ [6] (by rw [hsz]; decide) (by kernel_rfl))).trans (hF 6 (by decide))
      have k := (hG.cell (p := b.add j) (by rw [add_block]; exact h2)).trans k2
      clear hρ hF hcst hfun sl0 sl1 sl5 fin
      exact opv_val (by go_simp <;> rfl) ⟨gw_self _, rfl⟩
    · refine owes_v (Go.Op.binOp Go.BinOp.neq 3 (Go.Operand.tmp 20) (Go.Operand.tmp 24) 3) 4 [3, 7] (by kernel_rfl) (by kernel_rfl) (by kernel_rfl) rfl fun vals w1 ρ hG hF hρ hcst hfun => ?_
      have e20 : ρ (.tmp 20) = .int .i64 z := ((hρ 20).trans (slotJ [3, 7] (by rw [hsz]; decide) (by kernel_rfl))).trans (hF 3 (by decide))
      have e24 : ρ (.tmp 24) = .int .i64 z := ((hρ 24).trans (slotJ [3, 7] (by rw [hsz]; decide) (by kernel_rfl))).trans (hF 7 (by decide))
      clear hρ hF hcst hfun sl0 sl1 sl5 fin
      exact opv_val (by go_simp <;> rfl) ⟨gw_self _, rfl⟩
  · intro vals w1 hG hF
    exact fin vals w1 hG (hF 8 (by decide +kernel))
theorem ints_z (w : World) (A1 A2 : Option Addr) (c1 c2 N : Nat) (xs : List Int) (hN : N = xs.length) (hl : N ≤ 1000) (h1 : Rd zV w w.heap.size A1 xs) (h2 : Rd zV w w.heap.size A2 xs) : Calls Try.prog 12 #[.slice A1 N c1, .slice A2 N c2] w (RetP (.bool true) w) := by
  have HI : Hid (Calls Try.prog 38 #[.slice A1 N c1, .slice A2 N c2] w (RetP (.bool true) w)) := Lib.hid (by
    have HN := Lib.hid hN
    have HR := Lib.hid (And.intro h1 h2)
    have hN2 : (N : Int) ≤ 1000 := by omega
    clear h1 h2 hl hN
    go_enter Try.func38, Try.ntmps38
    go_wp2_with fail
    go_loopw [5] (fun i wr => ∃ j : Nat, j ≤ N ∧ i = .int .i64 j ∧ Hid (Below w.heap.size w wr)) (fun i _ => N - (Go.RowKit.intOf i).toNat)
    case atStart => exact ⟨0, Nat.zero_le _, rfl, Lib.hid (Below.refl _ _)⟩
    case round =>
      obtain ⟨j, hj, rfl, hB⟩ := hrel
      by_cases hlt : j < N
      · have p1 : (0 : Int) ≤ (j : Int) := by omega
        have p2 : (j : Int) < (N : Int) := by omega
        have hjl : j < xs.length := by rw [← HN.out]; exact hlt
        obtain ⟨q1, rfl, hq1, k1⟩ := (HR.out.1.below hB.out) j hjl
        obtain ⟨q2, rfl, hq2, k2⟩ := (HR.out.2.below hB.out) j hjl
        obtain ⟨z, hz⟩ : ∃ z, z = xs[j] := ⟨_, rfl⟩
        rw [← hz] at k1 k2
        unfold zV at k1 k2
        have hsz := hB.out.size
        have HReg := Lib.hid (fun Q a0 => inz_r Q a0 wr q1 q2 N j c1 c2 z (Nat.lt_of_lt_of_le hq1 hsz) (Nat.lt_of_lt_of_le hq2 hsz) k1 k2 p1 p2)
        clear hz hjl k1 k2
        go_wp2_with fail
        refine HReg.out _ _ rfl rfl rfl rfl ?_
        intro vals w2 hG h25
        unfold IsV at h25
        simp only [putD, Act.put, List.setIfInBounds_toArray, List.set_cons_zero, List.set_cons_succ, h25]
        have HB2 := Lib.hid (hB.out.trans (hG.mono hB.out.size))
        clear h25 hG
        go_wp2_with fail
        go_roundw
        case rel => exact ⟨j + 1, by omega, by go_num, HB2⟩
        case measure => simp [Go.RowKit.intOf]; omega
      · obtain rfl : j = N := by omega
        go_wp2_with fail
        go_ret
        exact ⟨rfl, hB.out⟩)
  clear h1 h2 hN hl
  go_enter Try.func12, Try.ntmps12
  go_wp2_with fail
  refine Calls.mono HI.out ?_
  rintro r w1 ⟨rfl, b1⟩
  have HB := Lib.hid b1
  clear b1 HI
  go_wp2_with fail
  go_ret
  exact ⟨rfl, HB.out⟩
end Go.Proofs.Ytlibcpboooehlaa
/- How an argument of type []uint64 is opened. No conditions. -/
namespace Go.Proofs.Ytlibcpboooehlaa
set_option linter.unusedVariables false
set_option linter.unusedSimpArgs false
open Go.ChangeShapes Go.WideShapes Go.ChangeAt Go.RowKit
theorem open_words {H : Type} {enc : TypeId × Value → H} {P : Program} {W : World} {base : Nat} {sp : Nat → Bool} {hd : Bool} {r : Reach} {b0 : Nat} {t e : TypeId} {v : Value} {d : DataW H} {p : List MemPlace}
    (ht : P.underlying t = some (.slice e)) (he : P.underlying e = some (.int .u64)) (hc : P.cellsOf e = 1)
    (hv : Value.okWide P W r b0 t v) (h : DataW.Trod enc P W base sp hd t v d p) :
    ∃ (A : Option Addr) (bs : List (BitVec 64)) (c : Nat), v = .slice A bs.length c ∧ bs.length ≤ c ∧ c ≤ maxLen ∧ Rd u64v W W.heap.size A bs := by
  obtain ⟨a0, len, cap, rfl⟩ := okWide_slice ht hv
  obtain ⟨fuel, hf⟩ := h
  rcases open_ints ht he hc hf with ⟨hcs, _⟩ | ⟨x, l, c, zs, hcs, _, hl, hm, hz, _, hcell, hwz⟩
  · simp [Value.cells] at hcs
    obtain ⟨rfl, rfl, rfl⟩ := hcs
    exact ⟨none, [], 0, rfl, Nat.le_refl _, by simp [maxLen], Rd.nil⟩
  · simp [Value.cells] at hcs
    obtain ⟨rfl, rfl, rfl⟩ := hcs
    have hlen : len ≤ zs.length := by rw [hz]; split <;> omega
    refine ⟨some x, (zs.take len).map (BitVec.ofInt 64), cap, by simp; omega, by simp; omega, hm, fun j hj => ?_⟩
    have hj' : j < len := by simp at hj; omega
    have hc1 := hcell j (by omega)
    have hb := cell_lt hc1
    rw [add_block] at hb
    refine ⟨x, rfl, hb, ?_⟩
    rw [hc1]
    have hw := hwz (zs.getD j 0) (by rw [List.getD_eq_getElem?_getD, List.getElem?_eq_getElem (by omega)]; exact List.getElem_mem _)
    rw [wfu64 hw]
    have e : zs.getD j 0 = zs[j]'(by omega) := by rw [List.getD_eq_getElem?_getD, List.getElem?_eq_getElem (by omega)]; rfl
    rw [e]
    simp [u64v]
end Go.Proofs.Ytlibcpboooehlaa
