/- Texts joined: AnyR CyC CyD CyE CyF CyG CyH CyI. -/
import Derived.Test.YtbanbpphadgoiaaZb2
import Derived.Test.YtbanbpphadgoiaaMmC
/- The last region of SumsAny. Conditions: lengths. -/
namespace Go.Proofs.Ytbanbpphadgoiaa
set_option linter.unusedVariables false
set_option linter.unusedSimpArgs false
open Go.RowKit
theorem of_ret {P : Program} {f : FuncId} {args : Array Value} {v : Value} {w : World} (h : Calls P f args w (RetP v w)) : Calls P f args w fun e w2 => ∃ u, e = .returned u ∧ Below w.heap.size w w2 ∧ IsV v u w2 :=
  h.mono fun _ _ h => ⟨_, h.1, h.2, rfl⟩
set_option maxRecDepth 100000
set_option maxHeartbeats 400000
end Go.Proofs.Ytbanbpphadgoiaa
/- Taking an object over: what Take tells, and does. Conditions: lengths; the header is an object's, or that of one that went. -/
namespace Go.Proofs.Ytbanbpphadgoiaa
set_option linter.unusedVariables false
set_option linter.unusedSimpArgs false
open Go.RowKit Go.Maps
set_option maxHeartbeats 1000000
set_option maxRecDepth 100000
theorem CyS.not_ge {s2 : Nat} {v1 v2 : Value} {k m : Nat} (hm : ∀ j, CyS s2 v1 v2 j → j < m) (hk : m ≤ k) : ¬ CyS s2 v1 v2 k := fun h => by have := hm k h; omega
theorem CyAt.lt_C {W : World} {B H1 H2 C s1 g1 : Nat} {v1 : Value} {s2 g2 : Nat} {v2 : Value} {b t e : Nat} {c : Cy} (h : CyAt W B H1 H2 C s1 g1 v1 s2 g2 v2 b t e c) : ∀ j, CyS s2 v1 v2 j → j < C := by
  have := h.s2H
  have := h.HC
  rintro k (e | e | e)
  · omega
  · exact h.v1C _ e
  · have := h.v2H _ e; omega
/-- The old word of a place, as the place. -/
theorem tk8 (Q : Exit → Act → World → Prop) (a0 : Act) (w : World) (C s2 hb : Nat) (v1 v2 : Value) (p2 : Value) (P n u er : Int) (K : World → Prop) (hC : C < w.heap.size) (hCn : ¬ CyS s2 v1 v2 C) (hbl : hb < w.heap.size) (hbn : ¬ CyS s2 v1 v2 hb) (c1 : w.cell? ⟨C, 1, none⟩ = some (.pointer (some ⟨s2, 0, none⟩))) (g0 : w.cell? ⟨hb, 0, none⟩ = some (.int .i64 P)) (g1 : w.cell? ⟨hb, 1, none⟩ = some (.int .i64 n)) (g2 : w.cell? ⟨hb, 2, none⟩ = some (.bool false)) (g3 : w.cell? ⟨hb, 3, none⟩ = some (.int .i64 0)) (hK : ∀ a b, K a → Gw a b → K b) (hp : Hid (∀ W, Below w.heap.size w W → Calls Try.prog 29 #[.pointer (some ⟨s2, 0, none⟩), .agg #[.int .i64 P, .int .i64 n, .bool false, .int .i64 0]] W (fun e w2 => ∃ v, e = .returned v ∧ Kept (CyS s2 v1 v2) W w2 ∧ AndV (.tuple #[.int .i64 u, .int .i64 er]) K v w2))) (hsz : a0.tmps.size = 102) (sl0 : a0.tmps.getD 0 undef = .pointer (some ⟨C, 0, none⟩)) (sl6 : a0.tmps.getD 6 undef = .pointer (some ⟨hb, 0, none⟩))
    (fin : ∀ (vals : Nat → Value) (w1 : World), Kept (CyS s2 v1 v2) w w1 → (IsV (.int .i64 u)) (vals 9) w1 → (IsV (.int .i64 er)) (vals 10) w1 → (AndV (.tuple #[.int .i64 u, .int .i64 er]) K) (vals 5) w1 → Q .normal (putO vals [some 33, some 34, some 35, some 36, some 37, some 38, some 32, some 39, some 40, some 8, some 7] 0 a0) w1) :
    (Code.region 8 (regIn Try.f51 8) true).wp Try.prog Q a0 w := by
  have hGs : ∀ (j : Nat) (v : Value) (w3 : World), (srcOf [] j = j → (([IsV (.pointer (some ⟨C, 0, none⟩)), IsV (.pointer (some ⟨C, 0, none⟩)), IsV (.pointer (some ⟨C, 1, none⟩)), IsV (.pointer (some ⟨s2, 0, none⟩)), IsV (.agg #[.int .i64 P, .int .i64 n, .bool false, .int .i64 0]), AndV (.tuple #[.int .i64 u, .int .i64 er]) K, IsV (.tuple #[.int .i64 u, .int .i64 er]), IsV (.int .i64 u), IsV (.int .i64 er), IsV (.int .i64 u), IsV (.int .i64 er)] : List (Value → World → Prop)).getD j fun _ _ => True) v w3) → (([IsV (.pointer (some ⟨C, 0, none⟩)), IsV (.pointer (some ⟨C, 0, none⟩)), IsV (.pointer (some ⟨C, 1, none⟩)), IsV (.pointer (some ⟨s2, 0, none⟩)), IsV (.agg #[.int .i64 P, .int .i64 n, .bool false, .int .i64 0]), AndV (.tuple #[.int .i64 u, .int .i64 er]) K, IsV (.tuple #[.int .i64 u, .int .i64 er]), IsV (.int .i64 u), IsV (.int .i64 er), IsV (.int .i64 u), IsV (.int .i64 er)] : List (Value → World → Prop)).getD j fun _ _ => True) v w3 := by
    intro j v w3 h
    match j, h with
    | 0, h => exact h rfl
    | 1, h => exact h rfl
    | 2, h => exact h rfl
    | 3, h => exact h rfl
    | 4, h => exact h rfl
    | 5, h => exact h rfl
    | 6, h => exact h rfl
    | 7, h => exact h rfl
    | 8, h => exact h rfl
    | 9, h => exact h rfl
    | 10, h => exact h rfl
    | _ + 11, _ => exact trivial
  refine region_byK [IsV (.pointer (some ⟨C, 0, none⟩)),
    IsV (.pointer (some ⟨C, 0, none⟩)),
    IsV (.pointer (some ⟨C, 1, none⟩)),
    IsV (.pointer (some ⟨s2, 0, none⟩)),
    IsV (.agg #[.int .i64 P, .int .i64 n, .bool false, .int .i64 0]),
    AndV (.tuple #[.int .i64 u, .int .i64 er]) K,
    IsV (.tuple #[.int .i64 u, .int .i64 er]),
    IsV (.int .i64 u),
    IsV (.int .i64 er),
    IsV (.int .i64 u),
    IsV (.int .i64 er)] [(5, fun w w1 => Kept (CyS s2 v1 v2) w w1)] []
    [some 33, some 34, some 35, some 36, some 37, some 38, some 32, some 39, some 40, some 8, some 7] (fun w1 => Kept (CyS s2 v1 v2) w w1) (by kernel_rfl) (Kept.of_below (Gw.drew _) _) (fun _ _ h g => h.trans (Kept.of_below g _)) 5 (fun w1 => Below w.heap.size w w1) (Gw.drew _) (fun _ _ h g => h.trans (Below.mono g h.size)) (by intro p hp; simp only [List.mem_cons, List.not_mem_nil, or_false] at hp; subst hp; rfl) (by rw [hsz]; kernel_rfl) (by kernel_rfl) (by kernel_rfl) ?_ ?_ ?_ ?_
  · intro f hf
    simp only [List.mem_cons, List.not_mem_nil, or_false] at hf
    rcases hf with rfl | rfl | rfl | rfl | rfl | rfl | rfl | rfl | rfl | rfl | rfl <;> intro v a b h g <;> first | exact IsV.mono h | exact BoxV.mono h g | exact BoxC.mono h g | exact AndV.mono hK h g
  · intro p hp
    simp only [List.mem_cons, List.not_mem_nil, or_false] at hp
    rcases hp with rfl
    · refine ⟨fun a b h1 h2 => h1.trans h2, ?_⟩
      intro f hf
      simp only [List.eraseIdx_cons_succ, List.eraseIdx_cons_zero, List.mem_cons, List.not_mem_nil, or_false] at hf
      rcases hf with rfl | rfl | rfl | rfl | rfl | rfl | rfl | rfl | rfl | rfl <;> intro v a b h g <;> exact h
  · refine ⟨?_, ?_, ?_, ?_, ?_, ?_, ?_, ?_, ?_, ?_, ?_, trivial⟩
    · refine OwesG.mk2 (D := Gw) (F' := fun j => ([IsV (.pointer (some ⟨C, 0, none⟩)), IsV (.pointer (some ⟨C, 0, none⟩)), IsV (.pointer (some ⟨C, 1, none⟩)), IsV (.pointer (some ⟨s2, 0, none⟩)), IsV (.agg #[.int .i64 P, .int .i64 n, .bool false, .int .i64 0]), AndV (.tuple #[.int .i64 u, .int .i64 er]) K, IsV (.tuple #[.int .i64 u, .int .i64 er]), IsV (.int .i64 u), IsV (.int .i64 er), IsV (.int .i64 u), IsV (.int .i64 er)] : List (Value → World → Prop)).getD j fun _ _ => True) rfl hGs (fun v w h => h) ?_
      exact owes_mvD gw_self 0 (by kernel_rfl) (by kernel_rfl) (by kernel_rfl) sl0 (fun _ => rfl)
    · refine OwesG.mk2 (D := Gw) (F' := fun j => ([IsV (.pointer (some ⟨C, 0, none⟩)), IsV (.pointer (some ⟨C, 0, none⟩)), IsV (.pointer (some ⟨C, 1, none⟩)), IsV (.pointer (some ⟨s2, 0, none⟩)), IsV (.agg #[.int .i64 P, .int .i64 n, .bool false, .int .i64 0]), AndV (.tuple #[.int .i64 u, .int .i64 er]) K, IsV (.tuple #[.int .i64 u, .int .i64 er]), IsV (.int .i64 u), IsV (.int .i64 er), IsV (.int .i64 u), IsV (.int .i64 er)] : List (Value → World → Prop)).getD j fun _ _ => True) rfl hGs (fun v w h => h) ?_
      refine owes_vD (Go.Op.nilCheck (Go.Operand.tmp 33)) 0 [0] (by kernel_rfl) (by kernel_rfl) (by kernel_rfl) rfl fun vals w1 ρ hG hF hρ hcst hfun => ?_
      have e33 : ρ (.tmp 33) = .pointer (some ⟨C, 0, none⟩) := ((hρ 33).trans (slotJ [0] (by rw [hsz]; decide) (by kernel_rfl))).trans (hF 0 (by decide))
      obtain ⟨hG, _⟩ := hG
      clear hρ hF hGs hcst hfun sl0 sl6 fin
      exact opv_val (by go_simp <;> rfl) ⟨gw_self _, rfl⟩
    · refine OwesG.mk2 (D := Gw) (F' := fun j => ([IsV (.pointer (some ⟨C, 0, none⟩)), IsV (.pointer (some ⟨C, 0, none⟩)), IsV (.pointer (some ⟨C, 1, none⟩)), IsV (.pointer (some ⟨s2, 0, none⟩)), IsV (.agg #[.int .i64 P, .int .i64 n, .bool false, .int .i64 0]), AndV (.tuple #[.int .i64 u, .int .i64 er]) K, IsV (.tuple #[.int .i64 u, .int .i64 er]), IsV (.int .i64 u), IsV (.int .i64 er), IsV (.int .i64 u), IsV (.int .i64 er)] : List (Value → World → Prop)).getD j fun _ _ => True) rfl hGs (fun v w h => h) ?_
      refine owes_vD (Go.Op.fieldAddr 109 (Go.Operand.tmp 34) 1) 0 [1] (by kernel_rfl) (by kernel_rfl) (by kernel_rfl) rfl fun vals w1 ρ hG hF hρ hcst hfun => ?_
      have e34 : ρ (.tmp 34) = .pointer (some ⟨C, 0, none⟩) := ((hρ 34).trans (slotJ [1] (by rw [hsz]; decide) (by kernel_rfl))).trans (hF 1 (by decide))
      obtain ⟨hG, _⟩ := hG
      clear hρ hF hGs hcst hfun sl0 sl6 fin
      exact opv_val (by go_simp <;> rfl) ⟨gw_self _, rfl⟩
    · refine OwesG.mk2 (D := Gw) (F' := fun j => ([IsV (.pointer (some ⟨C, 0, none⟩)), IsV (.pointer (some ⟨C, 0, none⟩)), IsV (.pointer (some ⟨C, 1, none⟩)), IsV (.pointer (some ⟨s2, 0, none⟩)), IsV (.agg #[.int .i64 P, .int .i64 n, .bool false, .int .i64 0]), AndV (.tuple #[.int .i64 u, .int .i64 er]) K, IsV (.tuple #[.int .i64 u, .int .i64 er]), IsV (.int .i64 u), IsV (.int .i64 er), IsV (.int .i64 u), IsV (.int .i64 er)] : List (Value → World → Prop)).getD j fun _ _ => True) rfl hGs (fun v w h => h) ?_
      refine owes_vD (Go.Op.load 26 (Go.Operand.tmp 35)) 26 [2] (by kernel_rfl) (by kernel_rfl) (by kernel_rfl) rfl fun vals w1 ρ hG hF hρ hcst hfun => ?_
      have e35 : ρ (.tmp 35) = .pointer (some ⟨C, 1, none⟩) := ((hρ 35).trans (slotJ [2] (by rw [hsz]; decide) (by kernel_rfl))).trans (hF 2 (by decide))
      obtain ⟨hG, _⟩ := hG
      have k := (hG.cell (p := ⟨C, 1, none⟩) hC hCn).trans c1
      clear hρ hF hGs hcst hfun sl0 sl6 fin
      exact opv_val (by go_simp <;> rfl) ⟨gw_self _, rfl⟩
    · refine OwesG.mk2 (D := Gw) (F' := fun j => ([IsV (.pointer (some ⟨C, 0, none⟩)), IsV (.pointer (some ⟨C, 0, none⟩)), IsV (.pointer (some ⟨C, 1, none⟩)), IsV (.pointer (some ⟨s2, 0, none⟩)), IsV (.agg #[.int .i64 P, .int .i64 n, .bool false, .int .i64 0]), AndV (.tuple #[.int .i64 u, .int .i64 er]) K, IsV (.tuple #[.int .i64 u, .int .i64 er]), IsV (.int .i64 u), IsV (.int .i64 er), IsV (.int .i64 u), IsV (.int .i64 er)] : List (Value → World → Prop)).getD j fun _ _ => True) rfl hGs (fun v w h => h) ?_
      refine owes_vD (Go.Op.load 76 (Go.Operand.tmp 6)) 76 [] (by kernel_rfl) (by kernel_rfl) (by kernel_rfl) rfl fun vals w1 ρ hG hF hρ hcst hfun => ?_
      have e6 : ρ (.tmp 6) = .pointer (some ⟨hb, 0, none⟩) := ((hρ 6).trans (slotO [] (by kernel_rfl))).trans sl6
      obtain ⟨hG, _⟩ := hG
      have k0 := (hG.cell (p := ⟨hb, 0, none⟩) hbl hbn).trans g0; have k1 := (hG.cell (p := ⟨hb, 1, none⟩) hbl hbn).trans g1; have k2 := (hG.cell (p := ⟨hb, 2, none⟩) hbl hbn).trans g2; have k3 := (hG.cell (p := ⟨hb, 3, none⟩) hbl hbn).trans g3
      clear hρ hF hGs hcst hfun sl0 sl6 fin
      exact opv_val (by go_simp <;> rfl) ⟨gw_self _, rfl⟩
    · refine OwesG.mk2 (D := fun w w1 => Kept (CyS s2 v1 v2) w w1) (F' := fun j => ([IsV (.pointer (some ⟨C, 0, none⟩)), IsV (.pointer (some ⟨C, 0, none⟩)), IsV (.pointer (some ⟨C, 1, none⟩)), IsV (.pointer (some ⟨s2, 0, none⟩)), IsV (.agg #[.int .i64 P, .int .i64 n, .bool false, .int .i64 0]), AndV (.tuple #[.int .i64 u, .int .i64 er]) K, IsV (.tuple #[.int .i64 u, .int .i64 er]), IsV (.int .i64 u), IsV (.int .i64 er), IsV (.int .i64 u), IsV (.int .i64 er)] : List (Value → World → Prop)).getD j fun _ _ => True) rfl hGs (fun v w h => h) ?_
      refine owes_vD (Go.Op.call { callee := Go.Callee.value (Go.Operand.func 29), args := #[Go.Operand.tmp 36, Go.Operand.tmp 37], argTypes := #[26, 76] }) 73 [3, 4] (by kernel_rfl) (by kernel_rfl) (by kernel_rfl) rfl fun vals w1 ρ hG hF hρ hcst hfun => ?_
      have e36 : ρ (.tmp 36) = .pointer (some ⟨s2, 0, none⟩) := ((hρ 36).trans (slotJ [3, 4] (by rw [hsz]; decide) (by kernel_rfl))).trans (hF 3 (by decide))
      have e37 : ρ (.tmp 37) = .agg #[.int .i64 P, .int .i64 n, .bool false, .int .i64 0] := ((hρ 37).trans (slotJ [3, 4] (by rw [hsz]; decide) (by kernel_rfl))).trans (hF 4 (by decide))
      obtain ⟨hG, hPre⟩ := hG; have hPre : Below w.heap.size w w1 := hPre
      clear hρ hF hGs hcst sl0 sl6 fin
      exact opv_enter (by go_simp <;> rfl) (hp.out w1 hPre)
    · refine OwesG.mk2 (D := Gw) (F' := fun j => ([IsV (.pointer (some ⟨C, 0, none⟩)), IsV (.pointer (some ⟨C, 0, none⟩)), IsV (.pointer (some ⟨C, 1, none⟩)), IsV (.pointer (some ⟨s2, 0, none⟩)), IsV (.agg #[.int .i64 P, .int .i64 n, .bool false, .int .i64 0]), AndV (.tuple #[.int .i64 u, .int .i64 er]) K, IsV (.tuple #[.int .i64 u, .int .i64 er]), IsV (.int .i64 u), IsV (.int .i64 er), IsV (.int .i64 u), IsV (.int .i64 er)] : List (Value → World → Prop)).getD j fun _ _ => True) rfl hGs (fun v w h => h) ?_
      exact owes_mvjD gw_self 5 38 (by kernel_rfl) (by kernel_rfl) (by kernel_rfl) (by kernel_rfl) (by rw [hsz]; decide) (fun v w h => h.1)
    · refine OwesG.mk2 (D := Gw) (F' := fun j => ([IsV (.pointer (some ⟨C, 0, none⟩)), IsV (.pointer (some ⟨C, 0, none⟩)), IsV (.pointer (some ⟨C, 1, none⟩)), IsV (.pointer (some ⟨s2, 0, none⟩)), IsV (.agg #[.int .i64 P, .int .i64 n, .bool false, .int .i64 0]), AndV (.tuple #[.int .i64 u, .int .i64 er]) K, IsV (.tuple #[.int .i64 u, .int .i64 er]), IsV (.int .i64 u), IsV (.int .i64 er), IsV (.int .i64 u), IsV (.int .i64 er)] : List (Value → World → Prop)).getD j fun _ _ => True) rfl hGs (fun v w h => h) ?_
      refine owes_vD (Go.Op.extract (Go.Operand.tmp 32) 0) 3 [6] (by kernel_rfl) (by kernel_rfl) (by kernel_rfl) rfl fun vals w1 ρ hG hF hρ hcst hfun => ?_
      have e32 : ρ (.tmp 32) = .tuple #[.int .i64 u, .int .i64 er] := ((hρ 32).trans (slotJ [6] (by rw [hsz]; decide) (by kernel_rfl))).trans (hF 6 (by decide))
      obtain ⟨hG, _⟩ := hG
      clear hρ hF hGs hcst hfun sl0 sl6 fin
      exact opv_val (by go_simp <;> rfl) ⟨gw_self _, rfl⟩
    · refine OwesG.mk2 (D := Gw) (F' := fun j => ([IsV (.pointer (some ⟨C, 0, none⟩)), IsV (.pointer (some ⟨C, 0, none⟩)), IsV (.pointer (some ⟨C, 1, none⟩)), IsV (.pointer (some ⟨s2, 0, none⟩)), IsV (.agg #[.int .i64 P, .int .i64 n, .bool false, .int .i64 0]), AndV (.tuple #[.int .i64 u, .int .i64 er]) K, IsV (.tuple #[.int .i64 u, .int .i64 er]), IsV (.int .i64 u), IsV (.int .i64 er), IsV (.int .i64 u), IsV (.int .i64 er)] : List (Value → World → Prop)).getD j fun _ _ => True) rfl hGs (fun v w h => h) ?_
      refine owes_vD (Go.Op.extract (Go.Operand.tmp 32) 1) 32 [6] (by kernel_rfl) (by kernel_rfl) (by kernel_rfl) rfl fun vals w1 ρ hG hF hρ hcst hfun => ?_
      have e32 : ρ (.tmp 32) = .tuple #[.int .i64 u, .int .i64 er] := ((hρ 32).trans (slotJ [6] (by rw [hsz]; decide) (by kernel_rfl))).trans (hF 6 (by decide))
      obtain ⟨hG, _⟩ := hG
      clear hρ hF hGs hcst hfun sl0 sl6 fin
      exact opv_val (by go_simp <;> rfl) ⟨gw_self _, rfl⟩
    · refine OwesG.mk2 (D := Gw) (F' := fun j => ([IsV (.pointer (some ⟨C, 0, none⟩)), IsV (.pointer (some ⟨C, 0, none⟩)), IsV (.pointer (some ⟨C, 1, none⟩)), IsV (.pointer (some ⟨s2, 0, none⟩)), IsV (.agg #[.int .i64 P, .int .i64 n, .bool false, .int .i64 0]), AndV (.tuple #[.int .i64 u, .int .i64 er]) K, IsV (.tuple #[.int .i64 u, .int .i64 er]), IsV (.int .i64 u), IsV (.int .i64 er), IsV (.int .i64 u), IsV (.int .i64 er)] : List (Value → World → Prop)).getD j fun _ _ => True) rfl hGs (fun v w h => h) ?_
      exact owes_mvjD gw_self 7 39 (by kernel_rfl) (by kernel_rfl) (by kernel_rfl) (by kernel_rfl) (by rw [hsz]; decide) (fun v w h => h)
    · refine OwesG.mk2 (D := Gw) (F' := fun j => ([IsV (.pointer (some ⟨C, 0, none⟩)), IsV (.pointer (some ⟨C, 0, none⟩)), IsV (.pointer (some ⟨C, 1, none⟩)), IsV (.pointer (some ⟨s2, 0, none⟩)), IsV (.agg #[.int .i64 P, .int .i64 n, .bool false, .int .i64 0]), AndV (.tuple #[.int .i64 u, .int .i64 er]) K, IsV (.tuple #[.int .i64 u, .int .i64 er]), IsV (.int .i64 u), IsV (.int .i64 er), IsV (.int .i64 u), IsV (.int .i64 er)] : List (Value → World → Prop)).getD j fun _ _ => True) rfl hGs (fun v w h => h) ?_
      exact owes_mvjD gw_self 8 40 (by kernel_rfl) (by kernel_rfl) (by kernel_rfl) (by kernel_rfl) (by rw [hsz]; decide) (fun v w h => h)
  · intro vals w1 hG hF
    exact fin vals w1 hG (hF 9 (by decide +kernel)) (hF 10 (by decide +kernel)) (hF 5 (by decide +kernel))
theorem good_right {x : BitVec 64} {room : Nat} (h : goodX x room = true) : rightH (P0 x : Int) (B0 x : Int) false 0 = true ∧ packH (P0 x : Int) (B0 x : Int) false 0 = x := by
  obtain ⟨h1, h2, h3⟩ := goodX_out h
  obtain ⟨r1, r2⟩ := okU_yes h1
  obtain ⟨e1, e2⟩ := ok_plain x h2
  obtain ⟨P, N, f1, f2, f3, _, _, _, _⟩ := head_nums h1 h2
  have p : (P0 x : Int) = fP x := by unfold P0; omega
  have q : (B0 x : Int) = fB x := by unfold B0; omega
  rw [p, q]
  rw [← e1] at h1
  rw [Bool.and_eq_true] at h1
  exact ⟨h1.1, by simpa using h1.2⟩
theorem take_nil (w : World) (C : Nat) : Calls Try.prog 51 #[.pointer (some ⟨C, 0, none⟩), .int .i64 (-1)] w (RetP (.tuple #[.int .i64 (-1), .int .i64 0]) w) := by
  go_enter Try.func51, Try.ntmps51
  go_wp2_with fail
  go_ret2
  exact ⟨rfl, Below.refl _ _⟩
section
variable {B H1 H2 C s1 g1 : Nat} {v1 : Value} {s2 g2 : Nat} {v2 : Value} {b t e : Nat} {c : Cy}
theorem take_mv (w : World) (p : CyAt w B H1 H2 C s1 g1 v1 s2 g2 v2 b t e c) (hl : c.F.length ≤ 8192) (a : Nat) (h1 : b ≤ a) (h2 : a < t) (hu : okU (c.F.getD a 0#64) = true) (hm : fM (c.F.getD a 0#64) = true) :
    Calls Try.prog 51 #[.pointer (some ⟨C, 0, none⟩), .int .i64 a] w (RetP (.tuple #[.int .i64 (fT (c.F.getD a 0#64)), .int .i64 0]) w) := by
  have hiw : a < c.F.length := by have := p.fr.te; have := p.fr.el; omega
  have HH := Lib.hid (sphead_in _ H2 s1 g1 v1 c.F b t e p.fr a h1 h2 (by omega) hiw)
  obtain ⟨x, hx⟩ : ∃ x, x = c.F.getD a 0#64 := ⟨_, rfl⟩
  have hgx : c.F[a] = x := by rw [hx, List.getD_eq_getElem?_getD, List.getElem?_eq_getElem hiw]; rfl
  rw [hgx] at HH
  rw [← hx] at hu hm ⊢
  have hv := unV_yes hu
  rw [hm] at hv
  rw [hv] at HH
  obtain ⟨P, hP⟩ : ∃ P, P = fP x := ⟨_, rfl⟩
  obtain ⟨N, hN⟩ : ∃ P, P = fB x := ⟨_, rfl⟩
  obtain ⟨T, hT⟩ : ∃ P, P = fT x := ⟨_, rfl⟩
  rw [← hP, ← hN, ← hT] at HH
  rw [← hT]
  obtain ⟨c0, c1⟩ := p.blk.two
  have n0 : ¬ (a : Int) = -1 := by omega
  clear p hl h1 h2 hu hm hiw hx hgx hv hP hN hT
  go_enter Try.func51, Try.ntmps51
  go_wp2_with fail
  refine Calls.mono HH.out ?_
  rintro r w2 ⟨rfl, b2⟩
  have HB2 := Lib.hid b2
  clear b2 c0 c1 HH
  go_wp2_with fail
  go_ret2
  exact ⟨rfl, HB2.out.alloc HB2.out.size _⟩
theorem cpW_get (T F : List (BitVec 64)) (u a i : Nat) : ∀ k, u + k < T.length → (cpW T F u a k)[i]? = if u < i ∧ i ≤ u + k then some (F.getD (a + (i - u)) 0#64) else T[i]?
  | 0, _ => by unfold cpW; rw [if_neg (by omega)]
  | k + 1, h => by
    unfold cpW
    rw [List.getElem?_set, cpW_len]
    by_cases e : u + (k + 1) = i
    · rw [if_pos e, if_pos (by omega), if_pos (by omega)]
      congr 3
      omega
    · rw [if_neg e, cpW_get T F u a i k (by omega)]
      by_cases h2 : u < i ∧ i ≤ u + k
      · rw [if_pos h2, if_pos (by omega)]
      · rw [if_neg h2, if_neg (by omega)]
/-- An object that is taken: there is room, or not. -/
def GoP (w : World) (B H1 H2 C s1 g1 : Nat) (v1 : Value) (s2 g2 : Nat) (v2 : Value) (b t e : Nat) (u er : Int) (d : Cy) (r : Ending) (w' : World) : Prop :=
  r = .returned (.tuple #[.int .i64 u, .int .i64 er]) ∧ CyAt w' B H1 H2 C s1 g1 v1 s2 g2 v2 b t e d ∧ Kept (CyS s2 v1 v2) w w'
theorem take_full (w : World) (p : CyAt w B H1 H2 C s1 g1 v1 s2 g2 v2 b t e c) (hl : c.F.length ≤ 8192) (hl2 : c.T.length ≤ 8192) (a : Nat) (h1 : b ≤ a) (h2 : a < t) (hg : goodX (c.F.getD a 0#64) (t - a) = true) (hf : ¬ szX (c.F.getD a 0#64) ≤ c.T.length - c.top) :
    Calls Try.prog 51 #[.pointer (some ⟨C, 0, none⟩), .int .i64 a] w (GoP w B H1 H2 C s1 g1 v1 s2 g2 v2 b t e 0 6 c) := by
  have hiw : a < c.F.length := by have := p.fr.te; have := p.fr.el; omega
  have HH := Lib.hid (sphead_in _ H2 s1 g1 v1 c.F b t e p.fr a h1 h2 (by omega) hiw)
  obtain ⟨x, hx⟩ : ∃ x, x = c.F.getD a 0#64 := ⟨_, rfl⟩
  have hgx : c.F[a] = x := by rw [hx, List.getD_eq_getElem?_getD, List.getElem?_eq_getElem hiw]; rfl
  rw [hgx] at HH
  rw [← hx] at hg hf
  obtain ⟨hv, _, _, _, hsz, _⟩ := head_of hg
  rw [hv] at HH
  have hr : rightH (P0 x : Int) (B0 x : Int) false 0 = true := (good_right hg).1
  have hAl : Hid (∀ W, Below w.heap.size w W → Calls Try.prog 29 #[.pointer (some ⟨s2, 0, none⟩), .agg #[.int .i64 (P0 x : Int), .int .i64 (B0 x : Int), .bool false, .int .i64 0]] W (fun e2 w2 => ∃ v, e2 = .returned v ∧ Kept (CyS s2 v1 v2) W w2 ∧ AndV (.tuple #[.int .i64 0, .int .i64 6]) (fun z => CyAt z B H1 H2 C s1 g1 v1 s2 g2 v2 b t e c) v w2)) := Lib.hid fun W hW => by
    refine (alloc_full W B s2 g2 v2 c.T 0 c.top c.T.length (p.below hW).to_ (by omega) _ _ _ _ hr hsz (by omega)).mono ?_
    rintro r w2 ⟨rfl, b2⟩
    exact ⟨_, rfl, Kept.of_below b2 _, rfl, (p.below hW).below b2⟩
  obtain ⟨P, hP⟩ : ∃ P, P = P0 x := ⟨_, rfl⟩
  obtain ⟨N, hN⟩ : ∃ P, P = B0 x := ⟨_, rfl⟩
  rw [← hP, ← hN] at HH hAl
  obtain ⟨c0, c1⟩ := p.blk.two
  have HPt := Lib.hid p
  have n0 : ¬ (a : Int) = -1 := by omega
  have hHC := p.blk.lt
  clear p hl hl2 h1 h2 hiw hx hgx hv hP hN hg hf hsz hr
  go_enter Try.func51, Try.ntmps51
  go_wp2_with fail
  refine Calls.mono HH.out ?_
  rintro r w2 ⟨rfl, b2⟩
  have HB2 := Lib.hid b2
  clear b2 c0 c1 HH
  go_wp2_with fail
  obtain ⟨hb, hhb⟩ : ∃ hb, hb = w2.heap.size := ⟨_, rfl⟩
  obtain ⟨w3, hw3⟩ : ∃ w3, w3 = w2.alloc (.cells #[.int .i64 P, .int .i64 N, .bool false, .int .i64 0] 76) := ⟨_, rfl⟩
  have hk3 : Bk w3 hb 76 #[.int .i64 P, .int .i64 N, .bool false, .int .i64 0] := by rw [hw3, hhb]; exact Bk.new w2 _ _
  have hb3 : Below w.heap.size w w3 := by rw [hw3]; exact HB2.out.alloc HB2.out.size _
  have hbn : w.heap.size ≤ hb := by rw [hhb]; exact HB2.out.size
  rw [← hhb, ← hw3]
  have HB3 := Lib.hid hb3
  have hp3 := HPt.out.below hb3
  obtain ⟨c0, c1⟩ := hp3.blk.two
  obtain ⟨k0, k1, k2, k3⟩ := hk3.four
  have hAl2 : Hid (∀ W, Below w3.heap.size w3 W → _) := Lib.hid fun W hW => hAl.out W (hb3.trans (hW.mono hb3.size))
  have x1 := hp3.blk.lt
  have x2 : ¬ CyS s2 v1 v2 C := CyS.not_ge HPt.out.lt_C (Nat.le_refl _)
  have x3 : ¬ CyS s2 v1 v2 hb := CyS.not_ge HPt.out.lt_C (by omega)
  have x4 := hk3.lt
  clear hhb hw3 hb3 hAl hp3 hk3
  refine tk8 _ _ _ C s2 hb v1 v2 undef (P : Int) (N : Int) 0 6 (fun z => CyAt z B H1 H2 C s1 g1 v1 s2 g2 v2 b t e c) x1 x2 x4 x3 c1 k0 k1 k2 k3 (fun _ _ h g => h.below g) hAl2 rfl rfl rfl ?_
  intro vals w4 hG h8 h7 hcall
  unfold IsV at h8 h7
  simp only [putO, Act.put, List.setIfInBounds_toArray, List.set_cons_zero, List.set_cons_succ, h8, h7]
  have HE := Lib.hid (And.intro hcall.2 ((Kept.of_below HB3.out _).trans hG))
  clear hG h8 h7 hcall c0 c1 k0 k1 k2 k3 x1 x2 x3 x4 hAl2
  go_wp2_with fail
  go_ret2
  exact ⟨rfl, HE.out.1, HE.out.2⟩
theorem SpAt.len' {W : World} {B s g : Nat} {v : Value} {ws : List (BitVec 64)} {b t e e' : Nat} (h : SpAt W B s g v ws b t e) (he : e = e') : SpAt W B s g v ws b t e' := he ▸ h
theorem movC_eq (c : Cy) (a : Nat) (n : Nat) (x : BitVec 64) (hx : x = c.F.getD a 0#64) (hn : n + 1 = szX x) : movC c a = ⟨c.F.set a (goneW c.top), cpW (allocW c.T c.top (n + 1) x) c.F c.top a n, c.top + (n + 1)⟩ := by
  unfold movC
  rw [← hx, ← hn]
  rfl
theorem take_go (w : World) (p : CyAt w B H1 H2 C s1 g1 v1 s2 g2 v2 b t e c) (hl : c.F.length ≤ 8192) (hl2 : c.T.length ≤ 8192) (a : Nat) (h1 : b ≤ a) (h2 : a < t) (hg : goodX (c.F.getD a 0#64) (t - a) = true) (hf : szX (c.F.getD a 0#64) ≤ c.T.length - c.top) :
    Calls Try.prog 51 #[.pointer (some ⟨C, 0, none⟩), .int .i64 a] w (GoP w B H1 H2 C s1 g1 v1 s2 g2 v2 b t e (c.top : Int) 0 (movC c a)) := by
  have hte := p.fr.te
  have hel := p.fr.el
  have hiw : a < c.F.length := by omega
  have HH := Lib.hid (sphead_in _ H2 s1 g1 v1 c.F b t e p.fr a h1 h2 (by omega) hiw)
  obtain ⟨x, hx⟩ : ∃ x, x = c.F.getD a 0#64 := ⟨_, rfl⟩
  have hgx : c.F[a] = x := by rw [hx, List.getD_eq_getElem?_getD, List.getElem?_eq_getElem hiw]; rfl
  rw [hgx] at HH
  rw [← hx] at hg hf
  obtain ⟨hv, _, _, hsx, hsz, hroom⟩ := head_of hg
  rw [hv] at HH
  obtain ⟨hr, hpk⟩ := good_right hg
  have htop : c.top ≤ c.T.length := p.to_.te
  obtain ⟨n, hn⟩ : ∃ n, n + 1 = szX x := ⟨szX x - 1, by omega⟩
  rw [← hn] at hsz hf hroom
  have HM := Lib.hid (movC_eq c a n x hx hn)
  obtain ⟨T0, hT0⟩ : ∃ T0, T0 = allocW c.T c.top (n + 1) x := ⟨_, rfl⟩
  have hT0l : T0.length = c.T.length := by rw [hT0, allocW_len]
  rw [← hT0] at HM
  have hAl : Hid (∀ W, Below w.heap.size w W → Calls Try.prog 29 #[.pointer (some ⟨s2, 0, none⟩), .agg #[.int .i64 (P0 x : Int), .int .i64 (B0 x : Int), .bool false, .int .i64 0]] W (fun e2 w2 => ∃ v, e2 = .returned v ∧ Kept (CyS s2 v1 v2) W w2 ∧ AndV (.tuple #[.int .i64 (c.top : Int), .int .i64 0]) (fun z => CyAt z B H1 H2 C s1 g1 v1 s2 g2 v2 b t e ⟨c.F, T0, c.top + (n + 1)⟩) v w2)) := Lib.hid fun W hW => by
    refine (alloc_ok3 W B s2 g2 v2 c.T 0 c.top c.T.length (p.below hW).to_ (by omega) _ _ _ (n + 1) hr hsz (by omega) (by omega)).mono ?_
    rintro r w2 ⟨rfl, q1, q2, q3⟩
    rw [hpk] at q1
    obtain ⟨q4, q5⟩ := CyAt.toT (d := ⟨c.F, T0, c.top + (n + 1)⟩) (p.below hW) q3 (by rw [hT0l, hT0]; exact q1) rfl
    exact ⟨_, rfl, q5, rfl, q4⟩
  have HSz := Lib.hid (fun W => size_c (P0 x : Int) (B0 x : Int) false 0 W)
  rw [hsz] at HSz
  obtain ⟨Z, hZ⟩ : ∃ Z, Z = n + 1 := ⟨_, rfl⟩
  have HZ := Lib.hid hZ
  have HL := Lib.hid (And.intro hl (And.intro hl2 (And.intro hiw (show a + (n + 1) ≤ c.F.length from by omega))))
  have HTl := Lib.hid (And.intro hT0l (show c.top + (n + 1) ≤ c.T.length from by omega))
  rw [← hZ] at HSz hAl HL HTl
  have hZ1 : 1 ≤ Z := by omega
  have hZ8 : (Z : Int) ≤ 9000 := by omega
  obtain ⟨P, hP⟩ : ∃ P, P = P0 x := ⟨_, rfl⟩
  obtain ⟨N, hN⟩ : ∃ P, P = B0 x := ⟨_, rfl⟩
  obtain ⟨u, hu⟩ : ∃ u, u = c.top := ⟨_, rfl⟩
  rw [← hP, ← hN] at HH hAl HSz
  rw [← hu] at hAl HM HTl ⊢
  have hu8 : (u : Int) < 8192 := by have := p.to_.te; omega
  have hn8 : (n : Int) < 8192 := by omega
  have ha8 : (a : Int) < 8192 := by omega
  have HPk := Lib.hid (fun W => pack_c 0 0 true (u : Int) W)
  have hrm : rightH 0 0 true (u : Int) = true := by simp [rightH]; omega
  rw [show errH 0 0 true (u : Int) = 0 from by unfold errH; rw [if_pos hrm]] at HPk
  obtain ⟨G, hG⟩ : ∃ G, G = packH 0 0 true (u : Int) := ⟨_, rfl⟩
  rw [← hG] at HPk
  have HG := Lib.hid (show goneW u = G from by unfold goneW; rw [hG])
  obtain ⟨c0, c1⟩ := p.blk.two
  have HPt := Lib.hid p
  have n0 : ¬ (a : Int) = -1 := by omega
  have hHC := p.blk.lt
  clear p hl hl2 h1 h2 hiw hx hgx hv hP hN hg hf hsz hr hpk hu hrm hG hT0 hT0l hte hel hroom htop hn hsx hn8 hZ
  go_enter Try.func51, Try.ntmps51
  go_wp2_with fail
  refine Calls.mono HH.out ?_
  rintro r w2 ⟨rfl, b2⟩
  have HB2 := Lib.hid b2
  clear b2 c0 c1 HH
  go_wp2_with fail
  obtain ⟨hb, hhb⟩ : ∃ hb, hb = w2.heap.size := ⟨_, rfl⟩
  obtain ⟨w3, hw3⟩ : ∃ w3, w3 = w2.alloc (.cells #[.int .i64 P, .int .i64 N, .bool false, .int .i64 0] 76) := ⟨_, rfl⟩
  have hk3 : Bk w3 hb 76 #[.int .i64 P, .int .i64 N, .bool false, .int .i64 0] := by rw [hw3, hhb]; exact Bk.new w2 _ _
  have hb3 : Below w.heap.size w w3 := by rw [hw3]; exact HB2.out.alloc HB2.out.size _
  have hbn : w.heap.size ≤ hb := by rw [hhb]; exact HB2.out.size
  rw [← hhb, ← hw3]
  have HB3 := Lib.hid hb3
  have hp3 := HPt.out.below hb3
  obtain ⟨c0, c1⟩ := hp3.blk.two
  obtain ⟨k0, k1, k2, k3⟩ := hk3.four
  have hAl2 : Hid (∀ W, Below w3.heap.size w3 W → _) := Lib.hid fun W hW => hAl.out W (hb3.trans (hW.mono hb3.size))
  have x1 := hp3.blk.lt
  have x2 : ¬ CyS s2 v1 v2 C := CyS.not_ge HPt.out.lt_C (Nat.le_refl _)
  have x3 : ¬ CyS s2 v1 v2 hb := CyS.not_ge HPt.out.lt_C (by omega)
  have x4 := hk3.lt
  have HK3 := Lib.hid hk3
  have HX3 := Lib.hid x3
  clear hhb hw3 hb3 hAl hp3 hk3
  refine tk8 _ _ _ C s2 hb v1 v2 undef (P : Int) (N : Int) (u : Int) 0 (fun z => CyAt z B H1 H2 C s1 g1 v1 s2 g2 v2 b t e ⟨c.F, T0, u + Z⟩) x1 x2 x4 x3 c1 k0 k1 k2 k3 (fun _ _ h g => h.below g) hAl2 rfl rfl rfl ?_
  intro vals w4 hG h8 h7 hcall
  unfold IsV at h8 h7
  simp only [putO, Act.put, List.setIfInBounds_toArray, List.set_cons_zero, List.set_cons_succ, h8, h7]
  have HE := Lib.hid (And.intro hcall.2 (And.intro (HK3.out |> fun k => hG.bk k HX3.out) ((Kept.of_below HB3.out _).trans hG)))
  clear hG h8 h7 hcall c0 c1 k0 k1 k2 k3 x1 x2 x3 x4 hAl2
  go_wp2_with fail
  go_loopw [9] (fun i W => ∃ j : Nat, i = .int .i64 j ∧ 1 ≤ j ∧ j ≤ Z ∧ Hid (CyAt W B H1 H2 C s1 g1 v1 s2 g2 v2 b t e ⟨c.F, cpW T0 c.F u a (j - 1), u + Z⟩ ∧ Bk W hb 76 #[.int .i64 P, .int .i64 N, .bool false, .int .i64 0] ∧ Kept (CyS s2 v1 v2) w W)) (fun i _ => Z - (Go.RowKit.intOf i).toNat)
  case atStart => exact ⟨1, rfl, Nat.le_refl _, by omega, HE⟩
  case round =>
    obtain ⟨j, rfl, hj1, hj, hS⟩ := hrel
    obtain ⟨k0, k1, k2, k3⟩ := hS.out.2.1.four
    have hklt := hS.out.2.1.lt
    have q0 : (1 : Int) ≤ (j : Int) := by omega
    go_wp2_with fail
    refine Calls.mono (HSz.out _) ?_
    rintro r w5 ⟨rfl, b5⟩
    have H5 := Lib.hid (And.intro (hS.out.1.below b5) (And.intro (hS.out.2.1.below b5 hklt) (hS.out.2.2.trans (Kept.of_below b5 _))))
    clear k0 k1 k2 k3 b5 hklt
    by_cases hlt : j < Z
    · have q1 : (j : Int) < (Z : Int) := by omega
      obtain ⟨c0, c1⟩ := H5.out.1.blk.two
      obtain ⟨d0, d1, d2, d3⟩ := H5.out.1.fr.four
      obtain ⟨J, hJ⟩ : ∃ J : Nat, J = a + j := ⟨_, rfl⟩
      have eJ : (a : Int) + (j : Int) = (J : Int) := by omega
      obtain ⟨U, hU⟩ : ∃ J : Nat, J = u + j := ⟨_, rfl⟩
      have eU : (u : Int) + (j : Int) = (U : Int) := by omega
      have hJl : J < c.F.length := by have := HL.out.2.2.2; omega
      have hUl : U < (cpW T0 c.F u a (j - 1)).length := by rw [cpW_len, HTl.out.1]; have := HTl.out.2; omega
      have hJ8 : (J : Int) ≤ 100000 := by have := HL.out.1; omega
      have hU8 : (U : Int) ≤ 100000 := by have := HL.out.2.1; rw [cpW_len, HTl.out.1] at hUl; omega
      obtain ⟨y, hy⟩ : ∃ y, y = c.F.getD J 0#64 := ⟨_, rfl⟩
      have hgy : c.F[J] = y := by rw [hy, List.getD_eq_getElem?_getD, List.getElem?_eq_getElem hJl]; rfl
      have HGet := Lib.hid (get_in w5 H2 g1 v1 c.F J hJl (by have := HL.out.1; omega) H5.out.1.fr.mem)
      rw [hgy] at HGet
      have HSet := Lib.hid (set_in w5 B g2 v2 _ U y hUl (by have := HL.out.2.1; rw [cpW_len, HTl.out.1]; omega) H5.out.1.to_.mem)
      have HNx := Lib.hid (show (cpW T0 c.F u a (j - 1)).set U y = cpW T0 c.F u a (j + 1 - 1) from by
        have e1 : j + 1 - 1 = (j - 1) + 1 := by omega
        rw [e1]
        show _ = (cpW T0 c.F u a (j - 1)).set (u + (j - 1 + 1)) (c.F.getD (a + (j - 1 + 1)) 0#64)
        rw [show u + (j - 1 + 1) = U from by omega, show a + (j - 1 + 1) = J from by omega, ← hy])
      obtain ⟨f0, f1, f2, f3⟩ := H5.out.1.to_.four
      clear hJ hU hJl hUl hy hgy hS
      go_wp2_with fail
      refine Calls.mono HGet.out ?_
      rintro r w6 ⟨rfl, rfl⟩
      go_wp2_with fail
      refine Calls.mono HSet.out ?_
      rintro r w7 ⟨rfl, m7, g7⟩
      have hT7 := CyAt.toT (d := ⟨c.F, cpW T0 c.F u a (j + 1 - 1), u + Z⟩) H5.out.1 (Two.grown g7) (by rw [HNx.out] at m7; exact (H5.out.1.to_.memTo m7 g7 (by rw [cpW_len, cpW_len])).len' (by rw [cpW_len, cpW_len])) rfl
      have H7 := Lib.hid (And.intro hT7.1 (And.intro (hT7.2.bk H5.out.2.1 HX3.out) (H5.out.2.2.trans hT7.2)))
      clear m7 g7 hT7 c0 c1 d0 d1 d2 d3 f0 f1 f2 f3
      go_wp2_with fail
      go_roundw
      case rel => first | exact ⟨j + 1, by go_num, by omega, by omega, H7⟩ | ((repeat apply Exists.intro); refine ⟨?_, rfl⟩; exact ⟨j + 1, by go_num, by omega, by omega, H7⟩)
      case measure => simp [Go.RowKit.intOf]; omega
    · have hjZ : Z = j := by omega
      subst hjZ
      obtain ⟨c0, c1⟩ := H5.out.1.blk.two
      obtain ⟨d0, d1, d2, d3⟩ := H5.out.1.fr.four
      clear hlt hj hS
      go_wp2_with fail
      refine Calls.mono (HPk.out _) ?_
      rintro r w6 ⟨rfl, b6⟩
      have H6 := Lib.hid (And.intro (H5.out.1.below b6) (H5.out.2.2.trans (Kept.of_below b6 _)))
      have HSet := Lib.hid (set_in w6 H2 g1 v1 c.F a G HL.out.2.2.1 (by have := HL.out.1; omega) H6.out.1.fr.mem)
      obtain ⟨c0', c1'⟩ := H6.out.1.blk.two
      obtain ⟨d0', d1', d2', d3'⟩ := H6.out.1.fr.four
      clear b6 c0 c1 d0 d1 d2 d3
      go_wp2_with fail
      refine Calls.mono HSet.out ?_
      rintro r w7 ⟨rfl, m7, g7⟩
      have hT7 := CyAt.toF (d := movC c a) H6.out.1 (by rw [HM.out, HG.out]; exact m7) g7 (by rw [HM.out, HG.out]; simp) (by rw [HM.out]; exact ⟨by rw [show Z - 1 = Z - 1 from rfl, HZ.out]; rfl, by rw [HZ.out]⟩)
      have H7 := Lib.hid (And.intro hT7.1 (H6.out.2.trans hT7.2))
      clear m7 g7 hT7 c0' c1' d0' d1' d2' d3'
      go_wp2_with fail
      go_ret2
      exact ⟨rfl, H7.out.1, H7.out.2⟩
end
end Go.Proofs.Ytbanbpphadgoiaa
/- Taking over, whatever the place; what stays right. Conditions: lengths. -/
namespace Go.Proofs.Ytbanbpphadgoiaa
set_option linter.unusedVariables false
set_option linter.unusedSimpArgs false
open Go.RowKit Go.Maps
set_option maxHeartbeats 1000000
set_option maxRecDepth 100000
/-- Each of some places has an object's header, or that of one that went. -/
def OkC (l : List Nat) (b t : Nat) (c : Cy) : Prop := ∀ a ∈ l, b ≤ a ∧ a < t ∧ t ≤ c.F.length ∧ okU (c.F.getD a 0#64) = true ∧ ((fM (c.F.getD a 0#64) = true ∧ (fT (c.F.getD a 0#64)).toNat < c.top) ∨ goodX (c.F.getD a 0#64) (t - a) = true)
def LenC (c : Cy) : Prop := c.F.length ≤ 8192 ∧ c.T.length ≤ 8192 ∧ c.top ≤ c.T.length
theorem gone_ok {u : Nat} (h : u < 8192) : okU (goneW u) = true ∧ fM (goneW u) = true ∧ (fT (goneW u)).toNat = u := by
  have hr : rightH 0 0 true (u : Int) = true := by simp [rightH]; omega
  obtain ⟨_, _, h3, h4⟩ := un_pack 0 0 true (u : Int) hr
  exact ⟨ok_pack 0 0 true (u : Int) hr, h3, by unfold goneW; rw [h4]; rfl⟩
theorem getD_set {ws : List (BitVec 64)} {i j : Nat} {x : BitVec 64} (hi : i < ws.length) : (ws.set i x).getD j 0#64 = if i = j then x else ws.getD j 0#64 := by
  rw [List.getD_eq_getElem?_getD, List.getD_eq_getElem?_getD, List.getElem?_set]
  by_cases e : i = j
  · rw [if_pos e, if_pos e, if_pos hi]; rfl
  · rw [if_neg e, if_neg e]
theorem allocW_getQ (ws : List (BitVec 64)) (t n i : Nat) (x : BitVec 64) (h : t + n ≤ ws.length) (hn : 1 ≤ n) : (allocW ws t n x)[i]? = if t = i then some x else if t < i ∧ i < t + n then some 0#64 else ws[i]? := by
  unfold allocW
  rw [zeroW_get _ _ _ _ (by rw [List.length_set]; omega), List.getElem?_set]
  by_cases e : t = i
  · rw [if_pos e, if_neg (by omega), if_pos e, if_pos (by omega)]
  · rw [if_neg e, if_neg e]
    by_cases e2 : t < i ∧ i < t + n
    · rw [if_pos e2, if_pos (by omega)]
    · rw [if_neg e2, if_neg (by omega)]
/-- The new words of an object that was taken. -/
theorem mov_get (c : Cy) (a i : Nat) (n : Nat) (hn : szX (c.F.getD a 0#64) = n) (hn1 : 1 ≤ n) (hf : c.top + n ≤ c.T.length) : (movC c a).T.getD i 0#64 = if c.top ≤ i ∧ i < c.top + n then c.F.getD (a + (i - c.top)) 0#64 else c.T.getD i 0#64 := by
  unfold movC
  rw [hn, List.getD_eq_getElem?_getD]
  rw [cpW_get _ _ _ _ _ _ (by rw [allocW_len]; omega), allocW_getQ _ _ _ _ _ hf hn1]
  by_cases e : c.top < i ∧ i ≤ c.top + (n - 1)
  · rw [if_pos e, if_pos (by omega)]; rfl
  · rw [if_neg e]
    by_cases e2 : c.top = i
    · rw [if_pos e2, if_pos (by omega), e2, Nat.sub_self]; rfl
    · rw [if_neg e2, if_neg (by omega), if_neg (by omega), ← List.getD_eq_getElem?_getD]
theorem size_pos {x : BitVec 64} {room : Nat} (h : goodX x room = true) : 1 ≤ szX x := by
  obtain ⟨_, _, _, h, _⟩ := head_of h
  omega
section
variable {l : List Nat} {b t : Nat} {c d : Cy}
theorem takeC_ok (h : OkC l b t c) (hL : LenC c) {a u : Nat} (ha : a ∈ l) (e : takeC c a = some (u, d)) :
    OkC l b t d ∧ LenC d ∧ u < d.top ∧ d.F.length = c.F.length ∧ d.T.length = c.T.length ∧ c.top ≤ d.top ∧ ∀ i, i < c.top → d.T.getD i 0#64 = c.T.getD i 0#64 := by
  obtain ⟨h1, h2, h3, h4, h5⟩ := h a ha
  unfold takeC at e
  by_cases hm : fM (c.F.getD a 0#64) = true
  · rw [if_pos hm] at e
    injection e with e
    injection e with e1 e2
    subst e1 e2
    refine ⟨h, hL, ?_, rfl, rfl, Nat.le_refl _, fun _ _ => rfl⟩
    rcases h5 with h5 | h5
    · exact h5.2
    · obtain ⟨_, h6, _⟩ := goodX_out h5
      rw [hm] at h6; cases h6
  · rw [if_neg hm] at e
    by_cases hf : szX (c.F.getD a 0#64) ≤ c.T.length - c.top
    · rw [if_pos hf] at e
      injection e with e
      injection e with e1 e2
      subst e1 e2
      have hg := h5.resolve_left (fun h => hm h.1)
      have hn := size_pos hg
      obtain ⟨hL1, hL2, hL3⟩ := hL
      obtain ⟨l1, l2⟩ := movC_len c a
      have htop : (movC c a).top = c.top + szX (c.F.getD a 0#64) := rfl
      have hF : (movC c a).F = c.F.set a (goneW c.top) := rfl
      refine ⟨?_, ⟨by rw [l1]; exact hL1, by rw [l2]; exact hL2, by rw [htop, l2]; omega⟩, by omega, l1, l2, by omega, fun i hi => ?_⟩
      · intro x hx
        obtain ⟨k1, k2, k3, k4, k5⟩ := h x hx
        rw [hF, getD_set (by omega), List.length_set]
        by_cases ex : a = x
        · rw [if_pos ex]
          obtain ⟨g1, g2, g3⟩ := gone_ok (u := c.top) (by omega)
          exact ⟨k1, k2, k3, g1, .inl ⟨g2, by rw [g3, htop]; omega⟩⟩
        · rw [if_neg ex]
          refine ⟨k1, k2, k3, k4, ?_⟩
          rcases k5 with k5 | k5
          · exact .inl ⟨k5.1, by rw [htop]; omega⟩
          · exact .inr k5
      · rw [mov_get c a i _ rfl hn (by omega), if_neg (by omega)]
    · rw [if_neg hf] at e; cases e
theorem takeP_ok (h : OkC l b t c) (hL : LenC c) {p q : Nat} (hp : p = 0 ∨ (1 ≤ p ∧ p - 1 ∈ l)) (e : takeP c p = some (q, d)) :
    OkC l b t d ∧ LenC d ∧ q ≤ d.top ∧ d.F.length = c.F.length ∧ d.T.length = c.T.length ∧ c.top ≤ d.top ∧ (∀ i, i < c.top → d.T.getD i 0#64 = c.T.getD i 0#64) ∧ (q = 0 ↔ p = 0) := by
  cases p with
  | zero =>
    have e : some (0, c) = some (q, d) := e
    injection e with e
    injection e with e1 e2
    subst e1 e2
    exact ⟨h, hL, Nat.zero_le _, rfl, rfl, Nat.le_refl _, fun _ _ => rfl, Iff.rfl⟩
  | succ a =>
    have ha : a ∈ l := by rcases hp with hp | ⟨_, hp⟩; · cases hp
                          · simpa using hp
    have e : (takeC c a).map (fun r => (r.1 + 1, r.2)) = some (q, d) := e
    cases hr : takeC c a with
    | none => rw [hr] at e; cases e
    | some r =>
      rw [hr] at e
      injection e with e
      injection e with e1 e2
      obtain ⟨u, d'⟩ := r
      subst e1 e2
      obtain ⟨k1, k2, k3, k4, k5, k6, k7⟩ := takeC_ok h hL ha hr
      exact ⟨k1, k2, by simp only; omega, k4, k5, k6, k7, by simp⟩
end
section
variable {B H1 H2 C s1 g1 : Nat} {v1 : Value} {s2 g2 : Nat} {v2 : Value} {b t e : Nat} {c : Cy} {l : List Nat}
def TakeR (w : World) (B H1 H2 C s1 g1 : Nat) (v1 : Value) (s2 g2 : Nat) (v2 : Value) (b t e : Nat) (c : Cy) (x : Option (Nat × Cy)) (r : Ending) (w' : World) : Prop := match x with
  | some (q, d) => GoP w B H1 H2 C s1 g1 v1 s2 g2 v2 b t e ((q : Int) - 1) 0 d r w'
  | none => GoP w B H1 H2 C s1 g1 v1 s2 g2 v2 b t e 0 6 c r w'
theorem takeP_c (w : World) (p : CyAt w B H1 H2 C s1 g1 v1 s2 g2 v2 b t e c) (hL : LenC c) (h : OkC l b t c) (k : Nat) (hk : k = 0 ∨ (1 ≤ k ∧ k - 1 ∈ l)) :
    Calls Try.prog 51 #[.pointer (some ⟨C, 0, none⟩), .int .i64 ((k : Int) - 1)] w (TakeR w B H1 H2 C s1 g1 v1 s2 g2 v2 b t e c (takeP c k)) := by
  cases k with
  | zero =>
    refine (take_nil w C).mono ?_
    rintro r w' ⟨rfl, b1⟩
    exact ⟨rfl, p.below b1, Kept.of_below b1 _⟩
  | succ a =>
    have ha : a ∈ l := by rcases hk with hk | ⟨_, hk⟩; · cases hk
                          · simpa using hk
    obtain ⟨h1, h2, h3, h4, h5⟩ := h a ha
    obtain ⟨l1, l2, l3⟩ := hL
    rw [show (((a + 1 : Nat) : Int)) - 1 = (a : Int) from by omega]
    show Calls _ _ _ _ (TakeR w B H1 H2 C s1 g1 v1 s2 g2 v2 b t e c ((takeC c a).map fun r => (r.1 + 1, r.2)))
    unfold takeC
    by_cases hm : fM (c.F.getD a 0#64) = true
    · rw [if_pos hm]
      refine (take_mv w p l1 a h1 h2 h4 hm).mono ?_
      rintro r w' ⟨rfl, b1⟩
      have := (fT_lt (c.F.getD a 0#64)).1
      refine ⟨?_, p.below b1, Kept.of_below b1 _⟩
      have e : (((fT (c.F.getD a 0#64)).toNat + 1 : Nat) : Int) - 1 = fT (c.F.getD a 0#64) := by
        have h0 : 0 ≤ fT (c.F.getD a 0#64) := this
        omega
      rw [e]
    · rw [if_neg hm]
      have hg := h5.resolve_left (fun h => hm h.1)
      by_cases hf : szX (c.F.getD a 0#64) ≤ c.T.length - c.top
      · rw [if_pos hf]
        refine (take_go w p l1 l2 a h1 h2 hg hf).mono ?_
        rintro r w' ⟨rfl, k1, k2⟩
        exact ⟨by rw [show (((c.top + 1 : Nat) : Int)) - 1 = (c.top : Int) from by omega], k1, k2⟩
      · rw [if_neg hf]
        exact take_full w p l1 l2 a h1 h2 hg hf
end
end Go.Proofs.Ytbanbpphadgoiaa
/- Scanning an object of the new space: what its pointers lead to is taken over. Conditions: lengths; the header is an object's; its pointers' words are of known old places. -/
namespace Go.Proofs.Ytbanbpphadgoiaa
set_option linter.unusedVariables false
set_option linter.unusedSimpArgs false
open Go.RowKit Go.Maps
set_option maxHeartbeats 1000000
set_option maxRecDepth 100000
/-- The words from the k-th pointer's on are of known old places, or of none. -/
def PtL (l : List Nat) (c : Cy) (at_ P i : Nat) : Prop := ∀ k, i ≤ k → k < P → (c.T.getD (at_ + 1 + k) 0#64).toNat = 0 ∨ (1 ≤ (c.T.getD (at_ + 1 + k) 0#64).toNat ∧ (c.T.getD (at_ + 1 + k) 0#64).toNat - 1 ∈ l)
theorem ofNat_nat {n : Nat} (h : n < 18446744073709551616) : (BitVec.ofNat 64 n).toNat = n := by rw [BitVec.toNat_ofNat, Nat.mod_eq_of_lt (by omega)]
section
variable {l : List Nat} {b t : Nat} {c d : Cy}
theorem setC_ok (h : OkC l b t c) (hL : LenC c) (i p : Nat) : OkC l b t (setC c i p) ∧ LenC (setC c i p) := ⟨h, hL.1, by unfold setC; rw [List.length_set]; exact hL.2.1, by unfold setC; rw [List.length_set]; exact hL.2.2⟩
/-- One step of a scan. -/
theorem scan_step (h : OkC l b t c) (hL : LenC c) {at_ P i q : Nat} (hi : i < P) (hPt : at_ + 1 + P ≤ c.top) (hp : PtL l c at_ P i) (e : takeP c (c.T.getD (at_ + 1 + i) 0#64).toNat = some (q, d)) :
    OkC l b t (setC d (at_ + 1 + i) q) ∧ LenC (setC d (at_ + 1 + i) q) ∧ PtL l (setC d (at_ + 1 + i) q) at_ P (i + 1) ∧ q ≤ d.top ∧ c.top ≤ d.top ∧ d.T.length = c.T.length ∧ d.F.length = c.F.length ∧ (∀ j, j < c.top → d.T.getD j 0#64 = c.T.getD j 0#64) ∧ (∀ j, j < c.top → j ≠ at_ + 1 + i → (setC d (at_ + 1 + i) q).T.getD j 0#64 = c.T.getD j 0#64) := by
  obtain ⟨k1, k2, k3, k4, k5, k6, k7, _⟩ := takeP_ok h hL (hp i (Nat.le_refl _) hi) e
  obtain ⟨s1, s2⟩ := setC_ok k1 k2 (at_ + 1 + i) q
  have hin : at_ + 1 + i < d.T.length := by have := hL.2.2; omega
  have hget : ∀ j, j < c.top → j ≠ at_ + 1 + i → (setC d (at_ + 1 + i) q).T.getD j 0#64 = c.T.getD j 0#64 := by
    intro j hj hne
    unfold setC
    rw [getD_set hin, if_neg (fun e => hne e.symm), k7 j hj]
  refine ⟨s1, s2, ?_, k3, k6, k5, k4, k7, hget⟩
  intro k hk1 hk2
  rw [hget _ (by omega) (by omega)]
  exact hp k (by omega) hk2
end
section
variable {B H1 H2 C s1 g1 : Nat} {v1 : Value} {s2 g2 : Nat} {v2 : Value} {b t e : Nat} {c : Cy} {l : List Nat}
theorem setq_c (w : World) (p : CyAt w B H1 H2 C s1 g1 v1 s2 g2 v2 b t e c) (hL : LenC c) (a i q : Nat) (ha : a < c.top) (hg : goodX (c.T.getD a 0#64) (c.top - a) = true) (hi : i < P0 (c.T.getD a 0#64)) (hq : q ≤ c.top) :
    Calls Try.prog 75 #[.pointer (some ⟨s2, 0, none⟩), .int .i64 a, .int .i64 i, .int .i64 ((q : Int) - 1)] w fun r w' => r = .returned (.int .i64 0) ∧ CyAt w' B H1 H2 C s1 g1 v1 s2 g2 v2 b t e (setC c (a + 1 + i) q) ∧ Kept (CyS s2 v1 v2) w w' := by
  have hl : c.T.length ≤ 100000 := by have := hL.2.1; omega
  cases q with
  | zero =>
    refine (setptr_nil w B s2 g2 v2 c.T 0 c.top c.T.length p.to_ hl a i (Nat.zero_le _) ha hg hi).mono ?_
    rintro r w' ⟨rfl, k1, k2, _⟩
    obtain ⟨r1, r2⟩ := CyAt.toT (d := setC c (a + 1 + i) 0) p k2 (SpAt.len' k1 (by unfold setC; rw [List.length_set])) rfl
    exact ⟨rfl, r1, r2⟩
  | succ m =>
    rw [show (((m + 1 : Nat) : Int)) - 1 = (m : Int) from by omega]
    refine (setptr_to w B s2 g2 v2 c.T 0 c.top c.T.length p.to_ hl a i m (Nat.zero_le _) ha hg hi (Nat.zero_le _) (by omega)).mono ?_
    rintro r w' ⟨rfl, k1, k2, _⟩
    obtain ⟨r1, r2⟩ := CyAt.toT (d := setC c (a + 1 + i) (m + 1)) p k2 (SpAt.len' k1 (by unfold setC; rw [List.length_set])) rfl
    exact ⟨rfl, r1, r2⟩
def ScanR (w : World) (B H1 H2 C s1 g1 : Nat) (v1 : Value) (s2 g2 : Nat) (v2 : Value) (b t e : Nat) (l : List Nat) (c : Cy) (n : Nat) (x : Option Cy) (r : Ending) (w' : World) : Prop := match x with
  | some d => r = .returned (.tuple #[.int .i64 (n : Int), .int .i64 0]) ∧ CyAt w' B H1 H2 C s1 g1 v1 s2 g2 v2 b t e d ∧ Kept (CyS s2 v1 v2) w w' ∧ OkC l b t d ∧ LenC d ∧ c.top ≤ d.top ∧ d.T.length = c.T.length ∧ d.F.length = c.F.length
  | none => r = .returned (.tuple #[.int .i64 0, .int .i64 6]) ∧ (∃ d, CyAt w' B H1 H2 C s1 g1 v1 s2 g2 v2 b t e d) ∧ Kept (CyS s2 v1 v2) w w'
set_option maxHeartbeats 4000000
theorem scan_c (w : World) (p : CyAt w B H1 H2 C s1 g1 v1 s2 g2 v2 b t e c) (hL : LenC c) (h : OkC l b t c) (a : Nat) (ha : a < c.top) (hg : goodX (c.T.getD a 0#64) (c.top - a) = true) (hp : PtL l c a (P0 (c.T.getD a 0#64)) 0) (hlb : ∀ y ∈ l, y < 8192) :
    Calls Try.prog 52 #[.pointer (some ⟨C, 0, none⟩), .int .i64 a] w (ScanR w B H1 H2 C s1 g1 v1 s2 g2 v2 b t e l c (a + szX (c.T.getD a 0#64)) (scanC a (P0 (c.T.getD a 0#64)) 0 c)) := by
  have hiw : a < c.T.length := by have := hL.2.2; omega
  have HH := Lib.hid (sphead_in _ B s2 g2 v2 c.T 0 c.top c.T.length p.to_ a (Nat.zero_le _) ha (by have := hL.2.1; omega) hiw)
  obtain ⟨x, hx⟩ : ∃ x, x = c.T.getD a 0#64 := ⟨_, rfl⟩
  have hgx : c.T[a] = x := by rw [hx, List.getD_eq_getElem?_getD, List.getElem?_eq_getElem hiw]; rfl
  rw [hgx] at HH
  rw [← hx] at hg hp ⊢
  obtain ⟨hv, hP64, hN, hsx, hsz, hroom⟩ := head_of hg
  rw [hv] at HH
  have HSz := Lib.hid (fun W => size_c (P0 x : Int) (B0 x : Int) false 0 W)
  rw [hsz] at HSz
  obtain ⟨Z, hZ⟩ : ∃ Z, Z = szX x := ⟨_, rfl⟩
  rw [← hZ] at HSz hroom hsx ⊢
  obtain ⟨R, hR⟩ : ∃ R, R = scanC a (P0 x) 0 c := ⟨_, rfl⟩
  rw [← hR]
  have HHd : Hid (∀ d : Cy, d.T.getD a 0#64 = x → ∀ q, c.top ≤ q → goodX (d.T.getD a 0#64) (q - a) = true) := Lib.hid (fun d hd q hq => by
    rw [hd]
    unfold goodX at hg ⊢
    simp only [Bool.and_eq_true, decide_eq_true_eq] at hg ⊢
    exact ⟨hg.1, hg.2.1, by omega⟩)
  obtain ⟨P, hP⟩ : ∃ P, P = P0 x := ⟨_, rfl⟩
  obtain ⟨N, hN'⟩ : ∃ P, P = B0 x := ⟨_, rfl⟩
  rw [← hP, ← hN'] at HH HSz
  rw [← hP] at hp hR hP64 hsx
  have HP0 := Lib.hid (show P0 x = P from hP.symm)
  have HR := Lib.hid hR
  have HLo := Lib.hid (show a + 1 + P ≤ c.top from by omega)
  have HSt := Lib.hid (And.intro p (And.intro hL (And.intro h (And.intro hp hx.symm))))
  have HT8 := Lib.hid (show c.top ≤ 8192 ∧ c.T.length ≤ 8192 from by have := hL.2.1; have := hL.2.2; exact ⟨by omega, by omega⟩)
  have q1 : (P : Int) ≤ 64 := by omega
  have q2 : (Z : Int) ≤ 8192 := by have := HT8.out; omega
  have q3 : (a : Int) ≤ 8192 := by have := HT8.out; omega
  have q4 : (0 : Int) ≤ (P : Int) := by omega
  have HLb := Lib.hid hlb
  obtain ⟨c0, c1⟩ := p.blk.two
  have hHC := p.blk.lt
  clear hL h ha hg hp hiw hx hgx hv hsz hroom hsx hZ hR hP hN' hN hP64 hlb p
  go_enter Try.func52, Try.ntmps52
  go_wp2_with fail
  refine Calls.mono HH.out ?_
  rintro r w2 ⟨rfl, b2⟩
  have HB2 := Lib.hid b2
  clear b2 c0 c1 HH
  go_wp2_with fail
  obtain ⟨hb, hhb⟩ : ∃ hb, hb = w2.heap.size := ⟨_, rfl⟩
  obtain ⟨w3, hw3⟩ : ∃ w3, w3 = w2.alloc (.cells #[.int .i64 P, .int .i64 N, .bool false, .int .i64 0] 76) := ⟨_, rfl⟩
  have hk3 : Bk w3 hb 76 #[.int .i64 P, .int .i64 N, .bool false, .int .i64 0] := by rw [hw3, hhb]; exact Bk.new w2 _ _
  have hb3 : Below w.heap.size w w3 := by rw [hw3]; exact HB2.out.alloc HB2.out.size _
  have hbn : w.heap.size ≤ hb := by rw [hhb]; exact HB2.out.size
  rw [← hhb, ← hw3]
  have hp3 := HSt.out.1.below hb3
  have H3 := Lib.hid (And.intro hp3 (And.intro hk3 (Kept.of_below hb3 (CyS s2 v1 v2))))
  have HX3 := Lib.hid (show ¬ CyS s2 v1 v2 hb from CyS.not_ge HSt.out.1.lt_C (by omega))
  obtain ⟨k0, k1, k2, k3⟩ := hk3.four
  clear hhb hw3 hb3 hp3 hk3
  go_wp2_with fail
  clear k0 k1 k2 k3
  go_loopw [27] (fun v W => ∃ i : Nat, v = .int .i64 i ∧ i ≤ P ∧ Hid (∃ d, CyAt W B H1 H2 C s1 g1 v1 s2 g2 v2 b t e d ∧ Bk W hb 76 #[.int .i64 P, .int .i64 N, .bool false, .int .i64 0] ∧ Kept (CyS s2 v1 v2) w W ∧ OkC l b t d ∧ LenC d ∧ PtL l d a P i ∧ d.T.getD a 0#64 = x ∧ c.top ≤ d.top ∧ d.T.length = c.T.length ∧ d.F.length = c.F.length ∧ scanC a (P - i) i d = R)) (fun v _ => P - (Go.RowKit.intOf v).toNat)
  case atStart => exact ⟨0, rfl, Nat.zero_le _, Lib.hid ⟨c, H3.out.1, H3.out.2.1, H3.out.2.2, HSt.out.2.2.1, HSt.out.2.1, HSt.out.2.2.2.1, HSt.out.2.2.2.2, Nat.le_refl _, rfl, rfl, by rw [HR.out]; rfl⟩⟩
  case round =>
    obtain ⟨i, rfl, hi, hS⟩ := hrel
    obtain ⟨d, hd1, hd2, hd3, hd4, hd5, hd6, hd7, hd8, hd9, hd10, hd11⟩ := hS.out
    by_cases hlt : i < P
    · have p1 : (0 : Int) ≤ (i : Int) := by omega
      have p2 : (i : Int) < (P : Int) := by omega
      obtain ⟨c0, c1⟩ := hd1.blk.two
      obtain ⟨f0, f1, f2, f3⟩ := hd1.to_.four
      obtain ⟨J, hJ⟩ : ∃ J : Nat, J = a + 1 + i := ⟨_, rfl⟩
      have eJ : (a : Int) + 1 + (i : Int) = (J : Int) := by omega
      have hJt : J < d.top := by have := HLo.out; omega
      have hJl : J < d.T.length := by have := hd5.2.2; omega
      have hJ8 : (J : Int) ≤ 100000 := by have := HT8.out; omega
      obtain ⟨y, hy⟩ : ∃ y, y = d.T.getD J 0#64 := ⟨_, rfl⟩
      have hgy : d.T[J] = y := by rw [hy, List.getD_eq_getElem?_getD, List.getElem?_eq_getElem hJl]; rfl
      have HGet := Lib.hid (get_in wr B g2 v2 d.T J hJl (by have := HT8.out; omega) hd1.to_.mem)
      rw [hgy] at HGet
      have hy2 := hd6 i (Nat.le_refl _) hlt
      rw [← hJ, ← hy] at hy2
      obtain ⟨k, hk⟩ : ∃ k, k = y.toNat := ⟨_, rfl⟩
      rw [← hk] at hy2
      have hk8 : (k : Int) ≤ 8192 := by
        rcases hy2 with h | ⟨h, h2⟩
        · omega
        · have := HLb.out _ h2; omega
      have hU : U64 y = (k : Int) := by rw [hk]; rfl
      rw [hU] at HGet
      have HTk := Lib.hid (takeP_c wr hd1 hd5 hd4 k hy2)
      have hsc : scanC a (P - i) i d = match takeP d k with
          | none => none
          | some (q, z) => scanC a (P - (i + 1)) (i + 1) (setC z J q) := by
        rw [show P - i = (P - (i + 1)) + 1 from by omega]
        show (match takeP d (d.T.getD (a + 1 + i) 0#64).toNat with | none => none | some (q, z) => scanC a (P - (i + 1)) (i + 1) (setC z (a + 1 + i) q)) = _
        rw [← hJ, ← hy, ← hk]
      have hkk : takeP d (d.T.getD (a + 1 + i) 0#64).toNat = takeP d k := by rw [← hJ, ← hy, ← hk]
      have hklt := hd2.lt
      cases hr : takeP d k with
      | none =>
        rw [hr] at HTk hsc
        have HRn := Lib.hid (show R = none from by rw [← hd11, hsc])
        have HTn := Lib.hid (show Calls Try.prog 51 #[.pointer (some ⟨C, 0, none⟩), .int .i64 ((k : Int) - 1)] wr (GoP wr B H1 H2 C s1 g1 v1 s2 g2 v2 b t e 0 6 d) from HTk.out)
        have HKe := Lib.hid hd3
        clear hJ hJt hJl hy hgy hy2 hk hU hsc hr hkk hklt HTk hd1 hd2 hd3 hd4 hd5 hd6 hd7 hd8 hd9 hd10 hd11 hS
        go_wp2_with fail
        refine Calls.mono HGet.out ?_
        rintro r w6 ⟨rfl, rfl⟩
        go_wp2_with fail
        refine Calls.mono HTn.out ?_
        rintro r w7 ⟨rfl, m7, g7⟩
        have H7 := Lib.hid (And.intro m7 (HKe.out.trans g7))
        clear m7 g7 c0 c1 f0 f1 f2 f3
        go_wp2_with fail
        go_ret2
        rw [HRn.out]
        exact ⟨rfl, ⟨_, H7.out.1⟩, H7.out.2⟩
      | some z =>
        obtain ⟨q, z⟩ := z
        rw [hr] at HTk hsc
        obtain ⟨j1, j2, j3, j4, j5, j6, j7, j8, j9⟩ := scan_step hd4 hd5 hlt (by have := HLo.out; omega) hd6 (hkk.trans hr)
        have hT0 := takeP_ok hd4 hd5 (hy2) hr
        have HTn := Lib.hid (show Calls Try.prog 51 #[.pointer (some ⟨C, 0, none⟩), .int .i64 ((k : Int) - 1)] wr (GoP wr B H1 H2 C s1 g1 v1 s2 g2 v2 b t e ((q : Int) - 1) 0 z) from HTk.out)
        have hza : z.T.getD a 0#64 = x := by rw [j8 a (by have := HLo.out; omega)]; exact hd7
        have HSq := Lib.hid (fun W (pz : CyAt W B H1 H2 C s1 g1 v1 s2 g2 v2 b t e z) => hJ ▸ setq_c W pz hT0.2.1 a i q (by have := HLo.out; omega) (HHd.out z hza z.top (by omega)) (by rw [hza, HP0.out]; exact hlt) j4)
        have HNx := Lib.hid (show OkC l b t (setC z J q) ∧ LenC (setC z J q) ∧ PtL l (setC z J q) a P (i + 1) ∧ (setC z J q).T.getD a 0#64 = x ∧ c.top ≤ (setC z J q).top ∧ (setC z J q).T.length = c.T.length ∧ (setC z J q).F.length = c.F.length ∧ scanC a (P - (i + 1)) (i + 1) (setC z J q) = R from by
          rw [hJ]
          refine ⟨j1, j2, j3, ?_, ?_, ?_, ?_, ?_⟩
          · rw [j9 a (by have := HLo.out; omega) (by omega)]; exact hd7
          · show c.top ≤ z.top; omega
          · unfold setC; rw [List.length_set, j6, hd9]
          · show z.F.length = _; rw [j7, hd10]
          · rw [← hd11, hsc, hJ])
        have HKe := Lib.hid (And.intro hd2 hd3)
        have q8 : (q : Int) ≤ 8192 := by have := hT0.2.1.2.2; have := hT0.2.1.2.1; omega
        clear hJ hJt hJl hy hgy hy2 hk hU hsc hr hkk hklt HTk hd1 hd2 hd3 hd4 hd5 hd6 hd7 hd8 hd9 hd10 hd11 hS j1 j2 j3 j4 j5 j6 j7 j8 j9 hT0 hza
        go_wp2_with fail
        refine Calls.mono HGet.out ?_
        rintro r w6 ⟨rfl, rfl⟩
        go_wp2_with fail
        refine Calls.mono HTn.out ?_
        rintro r w7 ⟨rfl, m7, g7⟩
        obtain ⟨c0', c1'⟩ := m7.blk.two
        have H7 := Lib.hid (And.intro m7 (And.intro (g7.bk HKe.out.1 HX3.out) (HKe.out.2.trans g7)))
        clear m7 g7 c0 c1 f0 f1 f2 f3
        go_wp2_with fail
        refine Calls.mono (HSq.out _ H7.out.1) ?_
        rintro r w8 ⟨rfl, m8, g8⟩
        have H8 := Lib.hid (show ∃ d, CyAt w8 B H1 H2 C s1 g1 v1 s2 g2 v2 b t e d ∧ Bk w8 hb 76 #[.int .i64 P, .int .i64 N, .bool false, .int .i64 0] ∧ Kept (CyS s2 v1 v2) w w8 ∧ OkC l b t d ∧ LenC d ∧ PtL l d a P (i + 1) ∧ d.T.getD a 0#64 = x ∧ c.top ≤ d.top ∧ d.T.length = c.T.length ∧ d.F.length = c.F.length ∧ scanC a (P - (i + 1)) (i + 1) d = R from
          ⟨_, m8, g8.bk H7.out.2.1 HX3.out, H7.out.2.2.trans g8, HNx.out⟩)
        clear m8 g8 c0' c1'
        go_wp2_with fail
        go_roundw
        case rel => first | exact ⟨i + 1, by go_num, by omega, H8⟩ | ((repeat apply Exists.intro); refine ⟨?_, rfl⟩; exact ⟨i + 1, by go_num, by omega, H8⟩)
        case measure => simp [Go.RowKit.intOf]; omega
    · have hiP : P = i := by omega
      subst hiP
      rw [Nat.sub_self] at hd11
      have HRs := Lib.hid (show R = some d from hd11.symm)
      have HE := Lib.hid (And.intro hd1 (And.intro hd3 (And.intro hd4 (And.intro hd5 (And.intro hd8 (And.intro hd9 hd10))))))
      obtain ⟨k0, k1, k2, k3⟩ := hd2.four
      have hklt := hd2.lt
      clear hlt hi hS hd1 hd2 hd3 hd4 hd5 hd6 hd7 hd8 hd9 hd10 hd11
      go_wp2_with fail
      refine Calls.mono (HSz.out _) ?_
      rintro r w6 ⟨rfl, b6⟩
      have H6 := Lib.hid (And.intro (HE.out.1.below b6) (HE.out.2.1.trans (Kept.of_below b6 _)))
      clear b6 k0 k1 k2 k3
      go_wp2_with fail
      go_ret2
      rw [HRs.out]
      exact ⟨by go_num, H6.out.1, H6.out.2, HE.out.2.2.1, HE.out.2.2.2.1, HE.out.2.2.2.2.1, HE.out.2.2.2.2.2.1, HE.out.2.2.2.2.2.2⟩
end
end Go.Proofs.Ytbanbpphadgoiaa
/- Whether roots may be; a space apart; a Carry's beginning. Conditions: lengths. -/
namespace Go.Proofs.Ytbanbpphadgoiaa
set_option linter.unusedVariables false
set_option linter.unusedSimpArgs false
open Go.RowKit Go.Maps
def zV (z : Int) : Value := .int .i64 z
section
variable {ops : Array Oper} {rest : List Oper} {o : Oper} {a : Act} {w : World} {Q : Exit → Act → World → Prop} {b : Nat} {m : List Int}
theorem wp_insI (hg : o.guard = none) (mm x v : Operand) (hop : o.op = Op.insert 134 mm x v)
    (hm : a.eval mm = .map (some b)) (h : SetI w b m) (p : Int) (hx : a.eval x = .int .i64 p) (hv : a.eval v = .agg #[]) (hp : kW p) (hl : m.length ≤ 1000000)
    (hK : ∀ w', SetI w' b (addS m p) → Kept (fun c => some b = some c) w w' → wpList Try.prog ops Q rest (a.put o.dst undef) w') : wpList Try.prog ops Q (o :: rest) a w := by
  refine wpList_plain hg fun K' hK' => ?_
  obtain ⟨w', hrun, r1, r2⟩ := h.put hp (by unfold maxLen; omega)
  unfold Oper.wp
  simp [execOp, hop, hm, hx, hv, hrun, Result.andThen]
  exact hK' _ _ (hK w' r1 r2)
end
theorem mk_set0 (W : World) : (Instr.makeMap 134 none).run Try.prog W = .ok (.map (some W.heap.size)) (W.alloc (.map #[] 0)) := by
  simp [Instr.makeMap, run_underlying Try.underlying134, Result.andThen]
/-- Is a root one of some places, or none? -/
def rootB (l : List Nat) (r : Int) : Bool := decide (r = -1 ∨ ∃ y ∈ l, (y : Int) = r)
def checkE (ws : List (BitVec 64)) (b t : Nat) (roots : List Int) : Int := match objF ws t (t + 1) b with
  | none => 2
  | some l => if l.all (wellN ws l) = true then (if roots.all (rootB l) = true then 0 else 1) else 2
set_option maxHeartbeats 4000000
set_option maxRecDepth 100000
theorem check_c (w : World) (B s g : Nat) (v : Value) (ws : List (BitVec 64)) (b t e : Nat) (p : SpAt w B s g v ws b t e) (hl : ws.length ≤ 8192) (A : Option Addr) (roots : List Int) (c : Nat) (hr : Rd zV w w.heap.size A roots) (hrl : roots.length ≤ 100000) (hrw : ∀ r ∈ roots, kW r) :
    Calls Try.prog 62 #[.pointer (some ⟨s, 0, none⟩), .slice A roots.length c] w (RetP (.int .i64 (checkE ws b t roots)) w) := by
  have HWl := Lib.hid (well_c w B s g v ws b t e p hl)
  have HP := Lib.hid p
  have HL := Lib.hid hl
  have HRw := Lib.hid hrw
  have HRr := Lib.hid hr
  have HT := Lib.hid (show t ≤ 8192 from by have := p.te; have := p.el; omega)
  obtain ⟨M, hM⟩ : ∃ M, M = roots.length := ⟨_, rfl⟩
  have qM : (M : Int) ≤ 100000 := by omega
  have HM := Lib.hid hM
  rw [← hM]
  obtain ⟨R, hR⟩ : ∃ R, R = checkE ws b t roots := ⟨_, rfl⟩
  rw [← hR]
  have HR := Lib.hid hR
  by_cases hwe : wellE ws b t = 0
  · rw [hwe] at HWl
    have HOb := Lib.hid (fun W (hb : Below w.heap.size w W) => objects_c W B s g v ws b t e (p.below hb) (by omega))
    cases ho : objF ws t (t + 1) b with
    | none => rw [well_none ho] at hwe; exact absurd hwe (by decide)
    | some l =>
      rw [ho] at HOb
      have hall : l.all (wellN ws l) = true := by
        rw [well_some ho] at hwe
        by_cases h : l.all (wellN ws l) = true
        · exact h
        · rw [if_neg h] at hwe; exact absurd hwe (by decide)
      have HRl := Lib.hid (show R = if roots.all (rootB l) = true then 0 else 1 from by rw [HR.out]; unfold checkE; rw [ho]; simp only; rw [if_pos hall])
      have HOb2 := Lib.hid (show ∀ W, Below w.heap.size w W → Calls Try.prog 25 #[.pointer (some ⟨s, 0, none⟩)] W (MkEP iN 3 l 0 W) from fun W hb => HOb.out W hb)
      have HMem := Lib.hid (objF_mem _ _ _ ho)
      have hlen := objF_len _ _ _ ho
      obtain ⟨N, hN⟩ : ∃ N, N = l.length := ⟨_, rfl⟩
      have qN : (N : Int) ≤ 8193 := by have := HT.out; omega
      have HN := Lib.hid hN
      clear HOb ho HR hlen hN hall hwe hM hR p hl hr hrl hrw
      go_enter Try.func62, Try.ntmps62
      go_wp2_with fail
      refine Calls.mono HWl.out ?_
      rintro r w1 ⟨rfl, b1⟩
      have HB1 := Lib.hid b1
      clear b1
      go_wp2_with fail
      refine Calls.mono (HOb2.out w1 HB1.out) ?_
      rintro r w2 ⟨Al, cl, rfl, hc, ho2, b2⟩
      have HB2 := Lib.hid (HB1.out.trans (b2.mono HB1.out.size))
      have HRd := Lib.hid ho2.rd
      have hge := HB2.out.size
      rw [← HN.out]
      clear hc ho2 b2
      have HS0 := Lib.hid (SetI.made w2)
      have HKm := Lib.hid (show kW (-1) from by unfold kW; decide)
      have hmk := mk_set0 w2
      obtain ⟨mb, hmb⟩ : ∃ mb, mb = w2.heap.size := ⟨_, rfl⟩
      obtain ⟨w3, hw3⟩ : ∃ w3, w3 = w2.alloc (.map #[] 0) := ⟨_, rfl⟩
      have HS3 := Lib.hid (And.intro (show SetI w3 mb [] from by rw [hw3, hmb]; exact HS0.out) (show Below w2.heap.size w2 w3 from by rw [hw3]; exact Gw.alloc w2 _))
      have HMb := Lib.hid hmb
      rw [← hmb, ← hw3] at hmk
      clear hw3 HS0 hmb
      go_wp2_with (refine wp_insI rfl (.tmp 29) (.const (.int .i64 (-1))) (.tmp 30) rfl rfl HS3.out.1 (-1) rfl rfl HKm.out (by simp) ?_; intro w8 h8 k8; have HX8 := Lib.hid (And.intro h8 k8); clear h8 k8)
      clear hmk
      have H8 := Lib.hid (And.intro HX8.out.1 (HS3.out.2.trans (HX8.out.2.below HS3.out.2.size (fun c e => by injection e with e; have := HMb.out; omega))))
      have hge8 := H8.out.2.size
      clear HX8 HS3
      go_loopw [34] (fun i W => ∃ k : Nat, i = .int .i64 k ∧ k ≤ N ∧ Hid (Below w2.heap.size w2 W ∧ ∃ M, SetI W mb M ∧ (∀ x : Int, x ∈ M ↔ x = -1 ∨ ∃ y ∈ l.take k, x = (y : Int)) ∧ M.length ≤ k + 1)) (fun i _ => N - (Go.RowKit.intOf i).toNat)
      case atStart => exact ⟨0, rfl, Nat.zero_le _, Lib.hid ⟨H8.out.2, _, H8.out.1, fun x => by simp [addS], by simp [addS]⟩⟩
      case round =>
        obtain ⟨k, rfl, hk, hS⟩ := hrel
        by_cases hlt : k < N
        · have hkl : k < l.length := by rw [← HN.out]; exact hlt
          obtain ⟨y, hy⟩ : ∃ y, y = l[k] := ⟨_, rfl⟩
          obtain ⟨hb, M', hMs, hMi, hMl⟩ := hS.out
          obtain ⟨ad, rfl, _, hc⟩ := (HRd.out.below hb) k hkl
          rw [← hy] at hc
          unfold iN at hc
          have hyt := (HMem.out y (by rw [hy]; exact List.getElem_mem _)).2.1
          have hkw : kW (y : Int) := wfI (by omega) (by have := HT.out; omega)
          have HK := Lib.hid (And.intro hkw (show M'.length ≤ 1000000 from by omega))
          have HSt := Lib.hid hMs
          have HNx := Lib.hid (show ∀ (W : World), Kept (fun c => some mb = some c) wr W → SetI W mb (addS M' (y : Int)) → (Below w2.heap.size w2 W ∧ ∃ M, SetI W mb M ∧ (∀ x : Int, x ∈ M ↔ x = -1 ∨ ∃ z ∈ l.take (k + 1), x = (z : Int)) ∧ M.length ≤ k + 1 + 1) from fun W hk2 hs2 => by
            refine ⟨hb.trans (hk2.below hb.size (fun c e => by injection e with e; have := HMb.out; omega)), _, hs2, fun x => ?_, Nat.le_trans addS_len (by omega)⟩
            rw [mem_addS, hMi, List.take_succ_eq_append_getElem hkl, ← hy]
            constructor
            · rintro ((h | ⟨z, hz, rfl⟩) | rfl)
              · exact .inl h
              · exact .inr ⟨z, List.mem_append.2 (.inl hz), rfl⟩
              · exact .inr ⟨y, by simp, rfl⟩
            · rintro (h | ⟨z, hz, rfl⟩)
              · exact .inl (.inl h)
              · rcases List.mem_append.1 hz with hz | hz
                · exact .inl (.inr ⟨z, hz, rfl⟩)
                · right; rw [List.mem_singleton.1 hz])
          have p1 : (0 : Int) ≤ (k : Int) := by omega
          have p2 : (k : Int) < (N : Int) := by omega
          clear hy hb hMs hMi hMl hyt hkw hkl
          go_wp2_with (at_mapUpdate; refine wp_putI rfl (.tmp 38) (.tmp 39) (.tmp 40) rfl rfl HSt.out (y : Int) rfl rfl HK.out.1 HK.out.2 ?_; intro w9 h9 k9; have HX := Lib.hid (HNx.out w9 k9 h9); clear h9 k9)
          clear hc
          go_roundw
          case rel => first | exact ⟨k + 1, by go_num, by omega, HX⟩ | exact ⟨_, ⟨k + 1, by go_num, by omega, HX⟩, rfl⟩
          case measure => simp [Go.RowKit.intOf]; omega
        · have hkN : k = N := by omega
          obtain ⟨hb, M', hMs, hMi, hMl⟩ := hS.out
          rw [hkN, List.take_of_length_le (by rw [← HN.out]; exact Nat.le_refl _)] at hMi
          obtain ⟨w5, hw5⟩ : ∃ w5, w5 = wr := ⟨_, rfl⟩
          rw [← hw5] at hb hMs ⊢
          have H5 := Lib.hid (And.intro (HB2.out.trans (hb.mono HB2.out.size)) (And.intro hMs hMi))
          have HRd5 := Lib.hid ((HRr.out.below H5.out.1).more H5.out.1.size)
          have hw5s := H5.out.1.size
          clear hS hb hMs hMi hMl hkN hw5
          go_wp2_with fail
          clear hlt hk
          go_loopw [44] (fun i W => ∃ k : Nat, i = .int .i64 k ∧ k ≤ M ∧ Hid ((roots.take k).all (rootB l) = true) ∧ Hid (Below w5.heap.size w5 W)) (fun i _ => M - (Go.RowKit.intOf i).toNat)
          case atStart => exact ⟨0, rfl, Nat.zero_le _, Lib.hid rfl, Lib.hid (Below.refl _ _)⟩
          case round =>
            obtain ⟨k, rfl, hk, hW, hB⟩ := hrel
            by_cases hlt : k < M
            · have hkl : k < roots.length := by rw [← HM.out]; exact hlt
              obtain ⟨y, hy⟩ : ∃ y, y = roots[k] := ⟨_, rfl⟩
              have hym : y ∈ roots := by rw [hy]; exact List.getElem_mem _
              obtain ⟨ad, rfl, _, hc⟩ := (HRd5.out.below hB.out) k hkl
              rw [← hy] at hc
              unfold zV at hc
              obtain ⟨d, hd⟩ : ∃ d, d = decide (y ∈ M') := ⟨_, rfl⟩
              have HLo := Lib.hid (fun W (hb : Below w5.heap.size w5 W) => (H5.out.2.1.below hb).look (p := y) (HRw.out y hym))
              rw [← hd] at HLo
              have HD := Lib.hid (show d = rootB l y from by
                rw [hd]
                unfold rootB
                refine decide_eq_decide.2 ?_
                rw [H5.out.2.2]
                constructor
                · rintro (h | ⟨z, hz, rfl⟩)
                  · exact .inl h
                  · exact .inr ⟨z, hz, rfl⟩
                · rintro (h | ⟨z, hz, h⟩)
                  · exact .inl h
                  · exact .inr ⟨z, hz, h.symm⟩)
              have HTk := Lib.hid (show roots.take (k + 1) = roots.take k ++ [y] from by rw [List.take_succ_eq_append_getElem hkl, hy])
              have HNo := Lib.hid (show d = false → R = 1 from fun h => by
                rw [HRl.out, if_neg]
                refine all_no hym ?_
                rw [← HD.out]; exact h)
              have hlk := HLo.out wr hB.out
              have p1 : (0 : Int) ≤ (k : Int) := by omega
              have p2 : (k : Int) < (M : Int) := by omega
              clear hy hym hkl hd
              cases d with
              | false =>
                obtain rfl : R = 1 := HNo.out rfl
                go_wp2_with fail
                go_ret
                exact ⟨rfl, (H5.out.1.trans (hB.out.mono H5.out.1.size)).alloc (Nat.le_trans H5.out.1.size hB.out.size) _⟩
              | true =>
                have HX := Lib.hid (show (roots.take (k + 1)).all (rootB l) = true from by rw [HTk.out, List.all_append, hW.out]; simp [← HD.out])
                have HB9 := Lib.hid (hB.out.alloc hB.out.size (.cells #[] 133))
                clear HNo HLo hW
                go_wp2_with fail
                go_roundw
                case rel => first | exact ⟨k + 1, by go_num, by omega, HX, HB9⟩ | ((repeat apply Exists.intro); refine ⟨?_, rfl⟩; exact ⟨k + 1, by go_num, by omega, HX, HB9⟩)
                case measure => simp [Go.RowKit.intOf]; omega
            · have hkM : M = k := by omega
              have hR0 : R = 0 := by
                rw [HRl.out, if_pos]
                have := hW.out
                rwa [← hkM, HM.out, List.take_length] at this
              subst hkM
              subst hR0
              clear hW hlt hk
              go_wp2_with fail
              go_ret
              exact ⟨rfl, H5.out.1.trans (hB.out.mono H5.out.1.size)⟩
  · have hw2 : wellE ws b t = 2 := by
      unfold wellE at hwe ⊢
      split at hwe
      · rfl
      · rename_i l ho
        by_cases h : l.all (wellN ws l) = true
        · rw [if_pos h] at hwe; exact absurd rfl hwe
        · rw [if_neg h]
    rw [hw2] at HWl
    have hR2 : R = 2 := by
      rw [HR.out]
      unfold checkE
      unfold wellE at hw2
      split
      · rfl
      · rename_i l ho
        rw [ho] at hw2
        simp only at hw2
        by_cases h : l.all (wellN ws l) = true
        · rw [if_pos h] at hw2; exact absurd hw2 (by decide)
        · rw [if_neg h]
    subst hR2
    clear hwe hw2 hR p hl hr hrl hrw hM
    go_enter Try.func62, Try.ntmps62
    go_wp2_with fail
    refine Calls.mono HWl.out ?_
    rintro r w1 ⟨rfl, b1⟩
    have HB1 := Lib.hid b1
    clear b1
    go_wp2_with fail
    go_ret
    exact ⟨rfl, HB1.out⟩
end Go.Proofs.Ytbanbpphadgoiaa
/- A space apart; a Carry's beginning. Conditions: lengths. -/
namespace Go.Proofs.Ytbanbpphadgoiaa
set_option linter.unusedVariables false
set_option linter.unusedSimpArgs false
open Go.RowKit Go.Maps
set_option maxHeartbeats 1000000
set_option maxRecDepth 100000
theorem mtwin_c (w : World) (B g : Nat) (v : Value) (ws : List (BitVec 64)) (h : MemAt w B g v ws) (hl : ws.length ≤ 1000000) :
    Calls Try.prog 80 #[.pointer (some ⟨g, 0, none⟩)] w fun e w' => ∃ g' v', e = .returned (.pointer (some ⟨g', 0, none⟩)) ∧ MemAt w' w.heap.size g' v' ws ∧ Below w.heap.size w w' := by
  obtain ⟨A, c, e, hc⟩ := h.row.form
  subst e
  have c0 := h.blk.cell 0
  have HC := Lib.hid (clone64_c ws A c w h.row.rd hl)
  obtain ⟨N, hN⟩ : ∃ N, N = ws.length := ⟨_, rfl⟩
  rw [← hN] at c0 HC
  have HN := Lib.hid hN
  clear h hc hN hl
  go_enter Try.func80, Try.ntmps80
  go_wp2_with fail
  refine Calls.mono HC.out ?_
  rintro e w1 ⟨A2, c2, rfl, h2, r2, b2⟩
  have H2 := Lib.hid (And.intro r2 b2)
  rw [← HN.out] at H2
  clear r2 b2 h2 c0 HC
  rw [← HN.out]
  go_wp2_with fail
  go_ret
  refine ⟨w1.heap.size, .slice A2 N c2, rfl, ⟨Bk.new w1 _ _, H2.out.2.size, H2.out.1.below (Gw.alloc w1 _), ?_⟩, H2.out.2.alloc H2.out.2.size _⟩
  intro e
  have := (H2.out.1.lt _ e).2
  omega
/-- Words of their own. -/
def MtV (B : Nat) (ws : List (BitVec 64)) (x : Value) (w : World) : Prop := ∃ g v, x = .pointer (some ⟨g, 0, none⟩) ∧ MemAt w B g v ws
theorem MtV.mono {B : Nat} {ws : List (BitVec 64)} {x : Value} {a b : World} (h : MtV B ws x a) (g : Gw a b) : MtV B ws x b := by
  obtain ⟨k, v, e, h⟩ := h
  exact ⟨k, v, e, h.below g⟩
def AgV (B : Nat) (ws : List (BitVec 64)) (b t e : Nat) (x : Value) (w : World) : Prop := ∃ g v, x = .agg #[.pointer (some ⟨g, 0, none⟩), .int .i64 b, .int .i64 t, .int .i64 e] ∧ MemAt w B g v ws
theorem AgV.mono {B : Nat} {ws : List (BitVec 64)} {b' t e : Nat} {x : Value} {a b : World} (h : AgV B ws b' t e x a) (g : Gw a b) : AgV B ws b' t e x b := by
  obtain ⟨k, v, e, h⟩ := h
  exact ⟨k, v, e, h.below g⟩
def SpV (B : Nat) (ws : List (BitVec 64)) (b t e : Nat) (x : Value) (w : World) : Prop := ∃ s g v, x = .pointer (some ⟨s, 0, none⟩) ∧ SpAt w B s g v ws b t e
theorem SpV.mono {B : Nat} {ws : List (BitVec 64)} {b' t e : Nat} {x : Value} {a b : World} (h : SpV B ws b' t e x a) (g : Gw a b) : SpV B ws b' t e x b := by
  obtain ⟨s, k, v, e, h⟩ := h
  exact ⟨s, k, v, e, h.below g⟩
theorem of_mt {w w1 : World} {g : Nat} {ws : List (BitVec 64)} (hs : w.heap.size ≤ w1.heap.size) (h : Calls Try.prog 80 #[.pointer (some ⟨g, 0, none⟩)] w1 fun e w' => ∃ g' v', e = .returned (.pointer (some ⟨g', 0, none⟩)) ∧ MemAt w' w1.heap.size g' v' ws ∧ Below w1.heap.size w1 w') :
    Calls Try.prog 80 #[.pointer (some ⟨g, 0, none⟩)] w1 fun e w2 => ∃ u, e = .returned u ∧ Below w1.heap.size w1 w2 ∧ MtV w.heap.size ws u w2 :=
  Calls.mono h fun e w' ⟨g', v', e1, h1, h2⟩ => ⟨_, e1, h2, g', v', rfl, ⟨h1.blk, Nat.le_trans hs h1.ge, h1.row.mono hs, h1.ne⟩⟩
theorem sp_box {w w1 : World} {g b t e : Nat} {v : Value} {ws : List (BitVec 64)} (hs : w.heap.size ≤ w1.heap.size) (h : b ≤ t ∧ t ≤ e ∧ e ≤ ws.length) (m : MemAt w1 w.heap.size g v ws) : SpAt (w1.alloc (.cells #[.pointer (some ⟨g, 0, none⟩), .int .i64 b, .int .i64 t, .int .i64 e] 61)) w.heap.size w1.heap.size g v ws b t e :=
  ⟨m.below (Gw.alloc w1 _), Bk.new w1 _ _, (Nat.ne_of_lt m.blk.lt).symm, fun e => by have := (m.row.lt _ e).2; omega, hs, h.1, h.2.1, h.2.2⟩
theorem ap_r (Q : Exit → Act → World → Prop) (a0 : Act) (w : World) (s g b t e : Nat) (ws : List (BitVec 64)) (hbt : Hid (b ≤ t ∧ t ≤ e ∧ e ≤ ws.length)) (hs : s < w.heap.size) (c0 : w.cell? ⟨s, 0, none⟩ = some (.pointer (some ⟨g, 0, none⟩))) (c1 : w.cell? ⟨s, 1, none⟩ = some (.int .i64 b)) (c2 : w.cell? ⟨s, 2, none⟩ = some (.int .i64 t)) (c3 : w.cell? ⟨s, 3, none⟩ = some (.int .i64 e)) (hp : Hid (∀ W, Below w.heap.size w W → Calls Try.prog 80 #[.pointer (some ⟨g, 0, none⟩)] W fun e w' => ∃ g' v', e = .returned (.pointer (some ⟨g', 0, none⟩)) ∧ MemAt w' W.heap.size g' v' ws ∧ Below W.heap.size W w')) (hsz : a0.tmps.size = 22) (sl0 : a0.tmps.getD 0 undef = .pointer (some ⟨s, 0, none⟩))
    (fin : ∀ (vals : Nat → Value) (w1 : World), Below w.heap.size w w1 → (SpV w.heap.size ws b t e) (vals 19) w1 → Q .normal (putD vals [3, 4, 5, 6, 7, 8, 9, 10, 11, 12, 13, 14, 15, 16, 17, 18, 19, 20, 21, 2] 0 a0) w1) :
    (Code.region 1 (regIn Try.f63 1) true).wp Try.prog Q a0 w := by
  refine region_by (G := fun w w1 => Below w.heap.size w w1) [IsV (.pointer (some ⟨s, 0, none⟩)),
    IsV (.pointer (some ⟨s, 0, none⟩)),
    IsV (.pointer (some ⟨s, 0, none⟩)),
    IsV (.pointer (some ⟨g, 0, none⟩)),
    MtV w.heap.size ws,
    IsV (.pointer (some ⟨s, 0, none⟩)),
    IsV (.pointer (some ⟨s, 0, none⟩)),
    IsV (.pointer (some ⟨s, 1, none⟩)),
    IsV (.int .i64 b),
    IsV (.pointer (some ⟨s, 0, none⟩)),
    IsV (.pointer (some ⟨s, 0, none⟩)),
    IsV (.pointer (some ⟨s, 2, none⟩)),
    IsV (.int .i64 t),
    IsV (.pointer (some ⟨s, 0, none⟩)),
    IsV (.pointer (some ⟨s, 0, none⟩)),
    IsV (.pointer (some ⟨s, 3, none⟩)),
    IsV (.int .i64 e),
    AgV w.heap.size ws b t e,
    SpV w.heap.size ws b t e,
    SpV w.heap.size ws b t e]
    [3, 4, 5, 6, 7, 8, 9, 10, 11, 12, 13, 14, 15, 16, 17, 18, 19, 20, 21, 2] (by kernel_rfl) (Gw.drew _) Gw.trans (by rw [hsz]; kernel_rfl) (by kernel_rfl) ?_ ?_ ?_
  · intro f hf
    simp only [List.mem_cons, List.not_mem_nil, or_false] at hf
    rcases hf with rfl | rfl | rfl | rfl | rfl | rfl | rfl | rfl | rfl | rfl | rfl | rfl | rfl | rfl | rfl | rfl | rfl | rfl | rfl | rfl <;> intro v a b h g <;> first | exact IsV.mono h | exact MtV.mono h g | exact AgV.mono h g | exact SpV.mono h g
  · refine ⟨?_, ?_, ?_, ?_, ?_, ?_, ?_, ?_, ?_, ?_, ?_, ?_, ?_, ?_, ?_, ?_, ?_, ?_, ?_, ?_, trivial⟩
    · exact owes_mv 0 (by kernel_rfl) (by kernel_rfl) (by kernel_rfl) sl0 (fun _ => rfl)
    · refine owes_v (Go.Op.nilCheck (Go.Operand.tmp 3)) 0 [0] (by kernel_rfl) (by kernel_rfl) (by kernel_rfl) rfl fun vals w1 ρ hG hF hρ hcst hfun => ?_
      have e3 : ρ (.tmp 3) = .pointer (some ⟨s, 0, none⟩) := ((hρ 3).trans (slotJ [0] (by rw [hsz]; decide) (by kernel_rfl))).trans (hF 0 (by decide))
      clear hρ hF hcst hfun sl0 fin
      exact opv_val (by go_simp <;> rfl) ⟨gw_self _, rfl⟩
    · refine owes_v (Go.Op.fieldAddr 61 (Go.Operand.tmp 4) 0) 0 [1] (by kernel_rfl) (by kernel_rfl) (by kernel_rfl) rfl fun vals w1 ρ hG hF hρ hcst hfun => ?_
      have e4 : ρ (.tmp 4) = .pointer (some ⟨s, 0, none⟩) := ((hρ 4).trans (slotJ [1] (by rw [hsz]; decide) (by kernel_rfl))).trans (hF 1 (by decide))
      clear hρ hF hcst hfun sl0 fin
      exact opv_val (by go_simp <;> rfl) ⟨gw_self _, rfl⟩
    · refine owes_v (Go.Op.load 59 (Go.Operand.tmp 5)) 59 [2] (by kernel_rfl) (by kernel_rfl) (by kernel_rfl) rfl fun vals w1 ρ hG hF hρ hcst hfun => ?_
      have e5 : ρ (.tmp 5) = .pointer (some ⟨s, 0, none⟩) := ((hρ 5).trans (slotJ [2] (by rw [hsz]; decide) (by kernel_rfl))).trans (hF 2 (by decide))
      have k := (hG.cell (p := ⟨s, 0, none⟩) hs).trans c0
      clear hρ hF hcst hfun sl0 fin
      exact opv_val (by go_simp <;> rfl) ⟨gw_self _, rfl⟩
    · refine owes_v (Go.Op.call { callee := Go.Callee.value (Go.Operand.func 80), args := #[Go.Operand.tmp 6], argTypes := #[59] }) 59 [3] (by kernel_rfl) (by kernel_rfl) (by kernel_rfl) rfl fun vals w1 ρ hG hF hρ hcst hfun => ?_
      have e6 : ρ (.tmp 6) = .pointer (some ⟨g, 0, none⟩) := ((hρ 6).trans (slotJ [3] (by rw [hsz]; decide) (by kernel_rfl))).trans (hF 3 (by decide))
      clear hρ hF hcst sl0 fin
      exact opv_enter (by go_simp <;> rfl) (of_mt hG.size (hp.out w1 hG))
    · exact owes_mv 0 (by kernel_rfl) (by kernel_rfl) (by kernel_rfl) sl0 (fun _ => rfl)
    · refine owes_v (Go.Op.nilCheck (Go.Operand.tmp 8)) 0 [5] (by kernel_rfl) (by kernel_rfl) (by kernel_rfl) rfl fun vals w1 ρ hG hF hρ hcst hfun => ?_
      have e8 : ρ (.tmp 8) = .pointer (some ⟨s, 0, none⟩) := ((hρ 8).trans (slotJ [5] (by rw [hsz]; decide) (by kernel_rfl))).trans (hF 5 (by decide))
      clear hρ hF hcst hfun sl0 fin
      exact opv_val (by go_simp <;> rfl) ⟨gw_self _, rfl⟩
    · refine owes_v (Go.Op.fieldAddr 61 (Go.Operand.tmp 9) 1) 0 [6] (by kernel_rfl) (by kernel_rfl) (by kernel_rfl) rfl fun vals w1 ρ hG hF hρ hcst hfun => ?_
      have e9 : ρ (.tmp 9) = .pointer (some ⟨s, 0, none⟩) := ((hρ 9).trans (slotJ [6] (by rw [hsz]; decide) (by kernel_rfl))).trans (hF 6 (by decide))
      clear hρ hF hcst hfun sl0 fin
      exact opv_val (by go_simp <;> rfl) ⟨gw_self _, rfl⟩
    · refine owes_v (Go.Op.load 3 (Go.Operand.tmp 10)) 3 [7] (by kernel_rfl) (by kernel_rfl) (by kernel_rfl) rfl fun vals w1 ρ hG hF hρ hcst hfun => ?_
      have e10 : ρ (.tmp 10) = .pointer (some ⟨s, 1, none⟩) := ((hρ 10).trans (slotJ [7] (by rw [hsz]; decide) (by kernel_rfl))).trans (hF 7 (by decide))
      have k := (hG.cell (p := ⟨s, 1, none⟩) hs).trans c1
      clear hρ hF hcst hfun sl0 fin
      exact opv_val (by go_simp <;> rfl) ⟨gw_self _, rfl⟩
    · exact owes_mv 0 (by kernel_rfl) (by kernel_rfl) (by kernel_rfl) sl0 (fun _ => rfl)
    · refine owes_v (Go.Op.nilCheck (Go.Operand.tmp 12)) 0 [9] (by kernel_rfl) (by kernel_rfl) (by kernel_rfl) rfl fun vals w1 ρ hG hF hρ hcst hfun => ?_
      have e12 : ρ (.tmp 12) = .pointer (some ⟨s, 0, none⟩) := ((hρ 12).trans (slotJ [9] (by rw [hsz]; decide) (by kernel_rfl))).trans (hF 9 (by decide))
      clear hρ hF hcst hfun sl0 fin
      exact opv_val (by go_simp <;> rfl) ⟨gw_self _, rfl⟩
    · refine owes_v (Go.Op.fieldAddr 61 (Go.Operand.tmp 13) 2) 0 [10] (by kernel_rfl) (by kernel_rfl) (by kernel_rfl) rfl fun vals w1 ρ hG hF hρ hcst hfun => ?_
      have e13 : ρ (.tmp 13) = .pointer (some ⟨s, 0, none⟩) := ((hρ 13).trans (slotJ [10] (by rw [hsz]; decide) (by kernel_rfl))).trans (hF 10 (by decide))
      clear hρ hF hcst hfun sl0 fin
      exact opv_val (by go_simp <;> rfl) ⟨gw_self _, rfl⟩
    · refine owes_v (Go.Op.load 3 (Go.Operand.tmp 14)) 3 [11] (by kernel_rfl) (by kernel_rfl) (by kernel_rfl) rfl fun vals w1 ρ hG hF hρ hcst hfun => ?_
      have e14 : ρ (.tmp 14) = .pointer (some ⟨s, 2, none⟩) := ((hρ 14).trans (slotJ [11] (by rw [hsz]; decide) (by kernel_rfl))).trans (hF 11 (by decide))
      have k := (hG.cell (p := ⟨s, 2, none⟩) hs).trans c2
      clear hρ hF hcst hfun sl0 fin
      exact opv_val (by go_simp <;> rfl) ⟨gw_self _, rfl⟩
    · exact owes_mv 0 (by kernel_rfl) (by kernel_rfl) (by kernel_rfl) sl0 (fun _ => rfl)
    · refine owes_v (Go.Op.nilCheck (Go.Operand.tmp 16)) 0 [13] (by kernel_rfl) (by kernel_rfl) (by kernel_rfl) rfl fun vals w1 ρ hG hF hρ hcst hfun => ?_
      have e16 : ρ (.tmp 16) = .pointer (some ⟨s, 0, none⟩) := ((hρ 16).trans (slotJ [13] (by rw [hsz]; decide) (by kernel_rfl))).trans (hF 13 (by decide))
      clear hρ hF hcst hfun sl0 fin
      exact opv_val (by go_simp <;> rfl) ⟨gw_self _, rfl⟩
    · refine owes_v (Go.Op.fieldAddr 61 (Go.Operand.tmp 17) 3) 0 [14] (by kernel_rfl) (by kernel_rfl) (by kernel_rfl) rfl fun vals w1 ρ hG hF hρ hcst hfun => ?_
      have e17 : ρ (.tmp 17) = .pointer (some ⟨s, 0, none⟩) := ((hρ 17).trans (slotJ [14] (by rw [hsz]; decide) (by kernel_rfl))).trans (hF 14 (by decide))
      clear hρ hF hcst hfun sl0 fin
      exact opv_val (by go_simp <;> rfl) ⟨gw_self _, rfl⟩
    · refine owes_v (Go.Op.load 3 (Go.Operand.tmp 18)) 3 [15] (by kernel_rfl) (by kernel_rfl) (by kernel_rfl) rfl fun vals w1 ρ hG hF hρ hcst hfun => ?_
      have e18 : ρ (.tmp 18) = .pointer (some ⟨s, 3, none⟩) := ((hρ 18).trans (slotJ [15] (by rw [hsz]; decide) (by kernel_rfl))).trans (hF 15 (by decide))
      have k := (hG.cell (p := ⟨s, 3, none⟩) hs).trans c3
      clear hρ hF hcst hfun sl0 fin
      exact opv_val (by go_simp <;> rfl) ⟨gw_self _, rfl⟩
    · refine owes_v (Go.Op.build 61 #[(0, Go.Operand.tmp 7), (1, Go.Operand.tmp 11), (2, Go.Operand.tmp 15), (3, Go.Operand.tmp 19)]) 61 [4, 8, 12, 16] (by kernel_rfl) (by kernel_rfl) (by kernel_rfl) rfl fun vals w1 ρ hG hF hρ hcst hfun => ?_
      have f7 : (MtV w.heap.size ws) (vals 4) w1 := hF 4 (by decide)
      have e7 : ρ (.tmp 7) = vals 4 := (hρ 7).trans (slotJ [4, 8, 12, 16] (by rw [hsz]; decide) (by kernel_rfl))
      have e11 : ρ (.tmp 11) = .int .i64 b := ((hρ 11).trans (slotJ [4, 8, 12, 16] (by rw [hsz]; decide) (by kernel_rfl))).trans (hF 8 (by decide))
      have e15 : ρ (.tmp 15) = .int .i64 t := ((hρ 15).trans (slotJ [4, 8, 12, 16] (by rw [hsz]; decide) (by kernel_rfl))).trans (hF 12 (by decide))
      have e19 : ρ (.tmp 19) = .int .i64 e := ((hρ 19).trans (slotJ [4, 8, 12, 16] (by rw [hsz]; decide) (by kernel_rfl))).trans (hF 16 (by decide))
      obtain ⟨g', v', ev, hm⟩ := f7; rw [ev] at e7
      clear hρ hF hcst hfun sl0 fin
      exact opv_val (by go_simp <;> rfl) ⟨gw_self _, g', v', rfl, hm⟩
    · refine owes_v (Go.Op.box 61 (Go.Operand.tmp 20)) 26 [17] (by kernel_rfl) (by kernel_rfl) (by kernel_rfl) rfl fun vals w1 ρ hG hF hρ hcst hfun => ?_
      have f20 : (AgV w.heap.size ws b t e) (vals 17) w1 := hF 17 (by decide)
      have e20 : ρ (.tmp 20) = vals 17 := (hρ 20).trans (slotJ [17] (by rw [hsz]; decide) (by kernel_rfl))
      obtain ⟨g', v', ev, hm⟩ := f20; rw [ev] at e20
      clear hρ hF hcst hfun sl0 fin
      exact opv_val (by go_simp <;> rfl) ⟨Gw.alloc _ _, _, g', v', rfl, sp_box hG.size hbt.out hm⟩
    · exact owes_mvj 18 21 (by kernel_rfl) (by kernel_rfl) (by kernel_rfl) (by kernel_rfl) (by rw [hsz]; decide) (fun v w h => h)
  · intro vals w1 hG hF
    exact fin vals w1 hG (hF 19 (by decide +kernel))
theorem apart_c (w : World) (B s g : Nat) (v : Value) (ws : List (BitVec 64)) (b t e : Nat) (p : SpAt w B s g v ws b t e) (hl : ws.length ≤ 100000) :
    Calls Try.prog 63 #[.pointer (some ⟨s, 0, none⟩)] w fun r w' => ∃ s' g' v', r = .returned (.pointer (some ⟨s', 0, none⟩)) ∧ SpAt w' w.heap.size s' g' v' ws b t e ∧ Below w.heap.size w w' := by
  have HTw := Lib.hid (fun W (hb : Below w.heap.size w W) => mtwin_c W B g v ws (p.mem.below hb) (by omega))
  obtain ⟨c0, c1, c2, c3⟩ := p.four
  have HQ := Lib.hid (And.intro p.bt (And.intro p.te p.el))
  have hs := p.blk.lt
  clear p hl
  go_enter Try.func63, Try.ntmps63
  go_wp2_with fail
  refine ap_r _ _ _ s g b t e ws HQ hs c0 c1 c2 c3 HTw rfl rfl ?_
  intro vals w1 hG h2
  obtain ⟨s', g', v', e2, hp⟩ := h2
  simp only [putD, Act.put, List.setIfInBounds_toArray, List.set_cons_zero, List.set_cons_succ, e2]
  have H1 := Lib.hid (And.intro hp hG)
  clear hp hG e2 c0 c1 c2 c3 hs
  go_wp2_with fail
  go_ret
  exact ⟨s', g', v', rfl, H1.out.1, H1.out.2⟩
theorem wI {n : Int} (h : kW n) : -9223372036854775808 ≤ n ∧ n ≤ 9223372036854775807 := by
  unfold kW at h
  simp [Lit.wf, IntKind.min, IntKind.max, IntKind.signed, IntKind.bits] at h
  omega
theorem cnew_words (w : World) (s : Value) (A : Option Addr) (n c : Nat) (words : Int) (h : words < 0 ∨ 8192 < words) (hw : kW words) :
    Calls Try.prog 32 #[s, .slice A n c, .int .i64 words] w (RetP (.tuple #[.pointer none, .int .i64 1]) w) := by
  obtain ⟨w1, w2⟩ := wI hw
  have HN := Lib.hid (new_out w words h w1 w2)
  clear h hw w1 w2
  go_enter Try.func32, Try.ntmps32
  go_wp2_with fail
  refine Calls.mono HN.out ?_
  rintro r w2 ⟨rfl, rfl⟩
  go_wp2_with fail
  go_ret2
  exact ⟨rfl, Below.refl _ _⟩
theorem cnew_err (w : World) (B s g : Nat) (v : Value) (ws : List (BitVec 64)) (b t e : Nat) (p : SpAt w B s g v ws b t e) (hl : ws.length ≤ 8192) (A : Option Addr) (roots : List Int) (c : Nat) (hr : Rd zV w w.heap.size A roots) (hrl : roots.length ≤ 100000) (hrw : ∀ r ∈ roots, kW r) (m : Nat) (hm : m ≤ 8192) (hE : checkE ws b t roots ≠ 0) :
    Calls Try.prog 32 #[.pointer (some ⟨s, 0, none⟩), .slice A roots.length c, .int .i64 m] w (RetP (.tuple #[.pointer none, .int .i64 (checkE ws b t roots)]) w) := by
  have HN := Lib.hid (new_in w m hm)
  have HC := Lib.hid (fun W (hb : Below w.heap.size w W) => check_c W B s g v ws b t e (p.below hb) hl A roots c ((hr.below hb).more hb.size) hrl hrw)
  obtain ⟨E, hEe⟩ : ∃ E, E = checkE ws b t roots := ⟨_, rfl⟩
  rw [← hEe] at HC hE ⊢
  obtain ⟨N, hNn⟩ : ∃ N, N = roots.length := ⟨_, rfl⟩
  rw [← hNn] at HC ⊢
  clear p hl hr hrl hrw hEe hNn hm
  go_enter Try.func32, Try.ntmps32
  go_wp2_with fail
  refine Calls.mono HN.out ?_
  rintro r w2 ⟨g2, v2, rfl, hm2, b2⟩
  have HB2 := Lib.hid b2
  clear hm2 b2
  go_wp2_with fail
  refine Calls.mono (HC.out w2 HB2.out) ?_
  rintro r w3 ⟨rfl, b3⟩
  have HB3 := Lib.hid (HB2.out.trans (b3.mono HB2.out.size))
  clear b3
  go_wp2_with fail
  go_ret2
  exact ⟨rfl, HB3.out⟩
theorem cnew_ok (w : World) (B s g : Nat) (v : Value) (ws : List (BitVec 64)) (b t e : Nat) (p : SpAt w B s g v ws b t e) (hl : ws.length ≤ 8192) (A : Option Addr) (roots : List Int) (c : Nat) (hr : Rd zV w w.heap.size A roots) (hrl : roots.length ≤ 100000) (hrw : ∀ r ∈ roots, kW r) (m : Nat) (hm : m ≤ 8192) (hE : checkE ws b t roots = 0) :
    Calls Try.prog 32 #[.pointer (some ⟨s, 0, none⟩), .slice A roots.length c, .int .i64 m] w fun r w' => ∃ H1 H2 C s1 g1 v1 s2 g2 v2, r = .returned (.tuple #[.pointer (some ⟨C, 0, none⟩), .int .i64 0]) ∧ CyAt w' w.heap.size H1 H2 C s1 g1 v1 s2 g2 v2 b t e ⟨ws, List.replicate m 0#64, 0⟩ ∧ Below w.heap.size w w' := by
  have HN := Lib.hid (new_in w m hm)
  have HC := Lib.hid (fun W (hb : Below w.heap.size w W) => check_c W B s g v ws b t e (p.below hb) hl A roots c ((hr.below hb).more hb.size) hrl hrw)
  rw [hE] at HC
  have HA := Lib.hid (fun W (hb : Below w.heap.size w W) => apart_c W B s g v ws b t e (p.below hb) (by omega))
  have HSn := Lib.hid (fun W g2 v2 (h : MemAt W w.heap.size g2 v2 (List.replicate m 0#64)) => snew_in W w.heap.size g2 v2 (List.replicate m 0#64) 0 m h (Nat.zero_le _) (by simp) (by simp; omega))
  obtain ⟨N, hNn⟩ : ∃ N, N = roots.length := ⟨_, rfl⟩
  rw [← hNn] at HC ⊢
  clear p hl hr hrl hrw hE hNn hm
  go_enter Try.func32, Try.ntmps32
  go_wp2_with fail
  refine Calls.mono HN.out ?_
  rintro r w2 ⟨g2, v2, rfl, hm2, b2⟩
  have H2 := Lib.hid (And.intro hm2 b2)
  clear hm2 b2
  go_wp2_with fail
  refine Calls.mono (HC.out w2 H2.out.2) ?_
  rintro r w3 ⟨rfl, b3⟩
  have H3 := Lib.hid (And.intro (H2.out.1.below b3) (H2.out.2.trans (b3.mono H2.out.2.size)))
  have H3s := b3.size
  clear b3
  go_wp2_with fail
  refine Calls.mono (HSn.out w3 g2 v2 H3.out.1) ?_
  rintro r w4 ⟨s2, rfl, hp4, b4⟩
  have H4 := Lib.hid (And.intro hp4 (H3.out.2.trans (b4.mono H3.out.2.size)))
  have H4s := Lib.hid b4
  clear hp4 b4
  go_wp2_with fail
  refine Calls.mono (HA.out w4 H4.out.2) ?_
  rintro r w5 ⟨s1, g1, v1, rfl, hp5, b5⟩
  have H5 := Lib.hid (And.intro hp5 (And.intro (H4.out.1.below b5) (H4.out.2.trans (b5.mono H4.out.2.size))))
  have H5s := Lib.hid b5
  clear hp5 b5
  go_wp2_with fail
  go_ret2
  have hb := Gw.alloc w5 (.cells #[.pointer (some ⟨s1, 0, none⟩), .pointer (some ⟨s2, 0, none⟩)] 109)
  have k1 := H2.out.1
  have k2 := H4.out.1
  have k5 := H5.out.1
  refine ⟨w4.heap.size, w4.heap.size, w5.heap.size, s1, g1, v1, s2, g2, v2, rfl, ⟨Bk.new w5 _ _, k5.below hb, SpAt.len' (H5.out.2.1.below hb) (by simp), ?_, ?_, ⟨Nat.le_refl _, k2.blk.lt⟩, k5.blk.lt, k5.mem.blk.lt, ?_, H5s.out.size, H4.out.2.size⟩, H5.out.2.2.alloc H5.out.2.2.size _⟩
  · exact k2.mem.blk.lt
  · intro k hk; exact (k2.mem.row.lt k hk).2
  · intro k hk; exact (k5.mem.row.lt k hk).2
end Go.Proofs.Ytbanbpphadgoiaa
/- What stays right while objects are taken over (pure). No conditions. -/
namespace Go.Proofs.Ytbanbpphadgoiaa
set_option linter.unusedVariables false
set_option linter.unusedSimpArgs false
open Go.RowKit Go.Maps
/-- Objects that may be copied: whole, apart, with pointers to each other. -/
structure Heap (ws : List (BitVec 64)) (l : List Nat) (b t : Nat) : Prop where
  tl : t ≤ ws.length
  wl : ws.length ≤ 8192
  good : ∀ a ∈ l, b ≤ a ∧ a < t ∧ goodX (ws.getD a 0#64) (t - a) = true
  gap : ∀ a ∈ l, ∀ i, 1 ≤ i → i < szX (ws.getD a 0#64) → a + i ∉ l
  ptr : ∀ a ∈ l, ∀ k, k < P0 (ws.getD a 0#64) → (ws.getD (a + 1 + k) 0#64).toNat = 0 ∨ (1 ≤ (ws.getD (a + 1 + k) 0#64).toNat ∧ (ws.getD (a + 1 + k) 0#64).toNat - 1 ∈ l)
def InvC (l : List Nat) (ws : List (BitVec 64)) (b t : Nat) (c : Cy) : Prop := OkC l b t c ∧ LenC c ∧ c.F.length = ws.length ∧ (∀ i, i ∉ l → c.F.getD i 0#64 = ws.getD i 0#64) ∧ (∀ a ∈ l, fM (c.F.getD a 0#64) = false → c.F.getD a 0#64 = ws.getD a 0#64)
/-- Copies of objects, one behind the other. -/
def Chain (ws T : List (BitVec 64)) : List Nat → Nat → Nat → Prop
  | [], p, q => p = q
  | a :: ys, p, q => (∀ i, i < szX (ws.getD a 0#64) → T.getD (p + i) 0#64 = ws.getD (a + i) 0#64) ∧ Chain ws T ys (p + szX (ws.getD a 0#64)) q
section
variable {ws T T' : List (BitVec 64)} {l : List Nat} {b t : Nat} {c d : Cy}
theorem Chain.le : ∀ {ys : List Nat} {p q : Nat}, Chain ws T ys p q → p ≤ q
  | [], _, _, h => by have h : _ = _ := h; omega
  | _ :: ys, _, _, h => by have := Chain.le (ys := ys) h.2; omega
theorem Chain.snoc : ∀ {ys : List Nat} {p q : Nat} {a : Nat}, Chain ws T ys p q → (∀ i, i < szX (ws.getD a 0#64) → T.getD (q + i) 0#64 = ws.getD (a + i) 0#64) → Chain ws T (ys ++ [a]) p (q + szX (ws.getD a 0#64))
  | [], p, q, a, h, k => by have h : p = q := h; subst h; exact ⟨k, rfl⟩
  | x :: ys, p, q, a, h, k => ⟨h.1, Chain.snoc (ys := ys) h.2 k⟩
theorem Chain.same : ∀ {ys : List Nat} {p q : Nat}, Chain ws T ys p q → (∀ i, p ≤ i → i < q → T'.getD i 0#64 = T.getD i 0#64) → Chain ws T' ys p q
  | [], _, _, h, _ => h
  | x :: ys, p, q, h, k => by
    have h2 := Chain.le (ys := ys) h.2
    exact ⟨fun i hi => by rw [k _ (by omega) (by omega)]; exact h.1 i hi, Chain.same (ys := ys) h.2 (fun i h1 h3 => k i (by omega) h3)⟩
theorem takeC_inv (H : Heap ws l b t) (h : InvC l ws b t c) {a u : Nat} (ha : a ∈ l) (e : takeC c a = some (u, d)) :
    InvC l ws b t d ∧ ((d = c ∧ fM (c.F.getD a 0#64) = true) ∨ (fM (c.F.getD a 0#64) = false ∧ d = movC c a ∧ u = c.top ∧ d.top = c.top + szX (ws.getD a 0#64) ∧ ∀ i, i < szX (ws.getD a 0#64) → d.T.getD (c.top + i) 0#64 = ws.getD (a + i) 0#64)) := by
  obtain ⟨h1, h2, h3, h4, h5⟩ := h
  obtain ⟨k1, k2, k3, k4, k5, k6, k7⟩ := takeC_ok h1 h2 ha e
  unfold takeC at e
  by_cases hm : fM (c.F.getD a 0#64) = true
  · rw [if_pos hm] at e
    injection e with e
    injection e with e1 e2
    subst e2
    exact ⟨⟨h1, h2, h3, h4, h5⟩, .inl ⟨rfl, hm⟩⟩
  · rw [if_neg hm] at e
    have hm2 : fM (c.F.getD a 0#64) = false := by simpa using hm
    by_cases hf : szX (c.F.getD a 0#64) ≤ c.T.length - c.top
    · rw [if_pos hf] at e
      injection e with e
      injection e with e1 e2
      have hx := h5 a ha hm2
      have hg := (H.good a ha).2.2
      have hn := size_pos hg
      have hal : a < c.F.length := by have := H.tl; have := (H.good a ha).2.1; omega
      have hF : (movC c a).F = c.F.set a (goneW c.top) := rfl
      subst e2
      refine ⟨⟨k1, k2, by rw [k4, h3], fun i hi => ?_, fun x hx2 hmx => ?_⟩, .inr ⟨hm2, rfl, e1.symm, by rw [← hx]; rfl, fun i hi => ?_⟩⟩
      · rw [hF, getD_set hal, if_neg (fun e0 => hi (by rw [← e0]; exact ha))]
        exact h4 i hi
      · rw [hF, getD_set hal] at hmx ⊢
        by_cases ex : a = x
        · rw [if_pos ex] at hmx
          obtain ⟨_, g2, _⟩ := gone_ok (u := c.top) (by have := h2.2.1; have := h2.2.2; have := k2.2.2; have := k2.2.1; omega)
          rw [g2] at hmx; cases hmx
        · rw [if_neg ex] at hmx ⊢
          exact h5 x hx2 hmx
      · rw [mov_get c a (c.top + i) (szX (ws.getD a 0#64)) (by rw [hx]) hn (by rw [hx] at hf; have := h2.2.2; omega), if_pos (by omega), show c.top + i - c.top = i from by omega]
        by_cases e0 : i = 0
        · subst e0; exact hx
        · exact h4 _ (H.gap a ha i (by omega) hi)
    · rw [if_neg hf] at e; cases e
theorem takeP_inv (H : Heap ws l b t) (h : InvC l ws b t c) {k q p0 : Nat} {ys : List Nat} (hk : k = 0 ∨ (1 ≤ k ∧ k - 1 ∈ l)) (hc : Chain ws c.T ys p0 c.top) (e : takeP c k = some (q, d)) :
    InvC l ws b t d ∧ ∃ ext, (∀ a ∈ ext, a ∈ l) ∧ Chain ws d.T (ys ++ ext) p0 d.top := by
  obtain ⟨_, _, _, _, _, _, k7, _⟩ := takeP_ok h.1 h.2.1 hk e
  cases k with
  | zero =>
    have e : some (0, c) = some (q, d) := e
    injection e with e
    injection e with e1 e2
    subst e2
    exact ⟨h, [], fun _ h => (by cases h), by rw [List.append_nil]; exact hc⟩
  | succ a =>
    have ha : a ∈ l := by
      rcases hk with hk | ⟨_, hk⟩
      · cases hk
      · simpa using hk
    have e : (takeC c a).map (fun r => (r.1 + 1, r.2)) = some (q, d) := e
    cases hr : takeC c a with
    | none => rw [hr] at e; cases e
    | some r =>
      rw [hr] at e
      injection e with e
      injection e with e1 e2
      obtain ⟨u, d'⟩ := r
      have e2 : d' = d := e2
      subst e2
      obtain ⟨j1, j2⟩ := takeC_inv H h ha hr
      refine ⟨j1, ?_⟩
      rcases j2 with ⟨rfl, _⟩ | ⟨_, _, _, j4, j5⟩
      · exact ⟨[], fun _ h => (by cases h), by rw [List.append_nil]; exact hc⟩
      · refine ⟨[a], fun x hx => by rw [List.mem_singleton.1 hx]; exact ha, ?_⟩
        rw [j4]
        exact (hc.same (fun i _ h2 => k7 i h2)).snoc j5
theorem scanC_inv (H : Heap ws l b t) {at_ P p1 : Nat} : ∀ (n i : Nat) (c : Cy) (ys : List Nat) {d : Cy}, n + i = P → InvC l ws b t c → at_ + 1 + P ≤ p1 → p1 ≤ c.top → PtL l c at_ P i → Chain ws c.T ys p1 c.top → (∀ a ∈ ys, a ∈ l) → scanC at_ n i c = some d →
    InvC l ws b t d ∧ (∃ ext, (∀ a ∈ ext, a ∈ l) ∧ Chain ws d.T (ys ++ ext) p1 d.top) ∧ c.top ≤ d.top ∧ d.T.length = c.T.length ∧ d.F.length = c.F.length ∧ (∀ j, j < c.top → ¬ (at_ + 1 + i ≤ j ∧ j < at_ + 1 + P) → d.T.getD j 0#64 = c.T.getD j 0#64)
  | 0, i, c, ys, d, _, h, _, _, _, hc, _, e => by
    have e : some c = some d := e
    injection e with e
    subst e
    exact ⟨h, ⟨[], fun _ h => (by cases h), by rw [List.append_nil]; exact hc⟩, Nat.le_refl _, rfl, rfl, fun _ _ _ => rfl⟩
  | n + 1, i, c, ys, d, hn, h, hp1, hpt, hp, hc, ha, e => by
    have hi : i < P := by omega
    have e : (match takeP c (c.T.getD (at_ + 1 + i) 0#64).toNat with | none => none | some (p, z) => scanC at_ n (i + 1) (setC z (at_ + 1 + i) p)) = some d := e
    cases hr : takeP c (c.T.getD (at_ + 1 + i) 0#64).toNat with
    | none => rw [hr] at e; cases e
    | some z =>
      obtain ⟨q, z⟩ := z
      rw [hr] at e
      obtain ⟨j1, j2, j3, j4, j5, j6, j7, j8, j9⟩ := scan_step h.1 h.2.1 hi (by omega) hp hr
      obtain ⟨k1, ext, k2, k3⟩ := takeP_inv H h (hp i (Nat.le_refl _) hi) hc hr
      have hin : at_ + 1 + i < z.T.length := by have := h.2.1.2.2; omega
      have hset : Chain ws (setC z (at_ + 1 + i) q).T (ys ++ ext) p1 (setC z (at_ + 1 + i) q).top := by
        refine k3.same (fun j h1 _ => ?_)
        unfold setC
        rw [getD_set hin, if_neg (by omega)]
      obtain ⟨m1, ⟨ext2, m2, m3⟩, m4, m5, m6, m7⟩ := scanC_inv H n (i + 1) (setC z (at_ + 1 + i) q) (ys ++ ext) (by omega) ⟨j1, j2, k1.2.2.1, k1.2.2.2.1, k1.2.2.2.2⟩ hp1 (show p1 ≤ z.top by omega) j3 hset (fun a h2 => (List.mem_append.1 h2).elim (ha a) (k2 a)) e
      refine ⟨m1, ⟨ext ++ ext2, fun a h2 => (List.mem_append.1 h2).elim (k2 a) (m2 a), by rw [← List.append_assoc]; exact m3⟩, ?_, ?_, ?_, fun j hj hne => ?_⟩
      · have : (setC z (at_ + 1 + i) q).top = z.top := rfl
        omega
      · rw [m5]; show ((z.T.set _ _).length) = _; rw [List.length_set, j6]
      · rw [m6]; show z.F.length = _; rw [j7]
      · rw [m7 j (show j < z.top by omega) (by omega)]
        exact j9 j hj (by omega)
/-- Of an object that is next: its header, its pointers. -/
theorem next_obj (H : Heap ws l b t) (h : InvC l ws b t c) {at_ : Nat} {ys : List Nat} (hc : Chain ws c.T ys at_ c.top) (ha : ∀ a ∈ ys, a ∈ l) (hlt : at_ < c.top) :
    ∃ a ys2, ys = a :: ys2 ∧ a ∈ l ∧ c.T.getD at_ 0#64 = ws.getD a 0#64 ∧ goodX (c.T.getD at_ 0#64) (c.top - at_) = true ∧ PtL l c at_ (P0 (c.T.getD at_ 0#64)) 0 ∧ at_ + 1 + P0 (c.T.getD at_ 0#64) ≤ at_ + szX (c.T.getD at_ 0#64) ∧ at_ + szX (c.T.getD at_ 0#64) ≤ c.top ∧ Chain ws c.T ys2 (at_ + szX (c.T.getD at_ 0#64)) c.top ∧ 1 ≤ szX (c.T.getD at_ 0#64) := by
  cases ys with
  | nil => have hc : at_ = c.top := hc; omega
  | cons a ys2 =>
    have hal := ha a (.head _)
    have hg := (H.good a hal).2.2
    have hn := size_pos hg
    have hx := hc.1 0 (by omega)
    rw [Nat.add_zero, Nat.add_zero] at hx
    have hle := hc.2.le
    obtain ⟨_, _, _, hsz, _, _⟩ := head_of hg
    refine ⟨a, ys2, rfl, hal, hx, ?_, ?_, ?_, ?_, ?_, ?_⟩
    · rw [hx]
      unfold goodX at hg ⊢
      simp only [Bool.and_eq_true, decide_eq_true_eq] at hg ⊢
      exact ⟨hg.1, hg.2.1, by omega⟩
    · rw [hx]
      intro k _ hk
      have := hc.1 (1 + k) (by omega)
      rw [show at_ + 1 + k = at_ + (1 + k) from by omega, this, show a + (1 + k) = a + 1 + k from by omega]
      exact H.ptr a hal k hk
    · rw [hx]; omega
    · rw [hx]; omega
    · rw [hx]; exact hc.2
    · rw [hx]; exact hn
end
def copyC (ws : List (BitVec 64)) (m : Nat) (ps : List Nat) : Option (List Nat × Cy) := match rootsC ps ⟨ws, List.replicate m 0#64, 0⟩ with
  | none => none
  | some (qs, c) => (goC (m + 1) 0 c).map fun d => (qs, d)
end Go.Proofs.Ytbanbpphadgoiaa
/- Copy. Conditions: lengths; the space is well, the roots are known. -/
namespace Go.Proofs.Ytbanbpphadgoiaa
set_option linter.unusedVariables false
set_option linter.unusedSimpArgs false
open Go.RowKit Go.Maps
theorem objF_gap {ws : List (BitVec 64)} {top : Nat} : ∀ (n a : Nat) (l : List Nat), objF ws top n a = some l → ∀ x ∈ l, ∀ i, 1 ≤ i → i < szX (ws.getD x 0#64) → x + i ∉ l
  | 0, a, l, h, x, hx => by injection h with h; subst h; cases hx
  | n + 1, a, l, h, x, hx => by
    have e : objF ws top (n + 1) a = if a < top then (if goodX (ws.getD a 0#64) (top - a) = true then (objF ws top n (a + szX (ws.getD a 0#64))).map (a :: ·) else none) else some [] := rfl
    rw [e] at h
    by_cases c : a < top
    · rw [if_pos c] at h
      by_cases d : goodX (ws.getD a 0#64) (top - a) = true
      · rw [if_pos d] at h
        cases hr : objF ws top n (a + szX (ws.getD a 0#64)) with
        | none => rw [hr] at h; cases h
        | some r =>
          rw [hr] at h
          injection h with h
          subst h
          have hge : ∀ y ∈ r, a + szX (ws.getD a 0#64) ≤ y := fun y hy => (objF_mem n _ r hr y hy).1
          have hs := size_pos d
          intro i h1 h2 h3
          rcases List.mem_cons.1 hx with rfl | hx
          · rcases List.mem_cons.1 h3 with h3 | h3
            · omega
            · have := hge _ h3; omega
          · have h4 := hge _ hx
            rcases List.mem_cons.1 h3 with h3 | h3
            · omega
            · exact objF_gap n _ r hr x hx i h1 h2 h3
      · rw [if_neg d] at h; cases h
    · rw [if_neg c] at h
      injection h with h
      subst h
      cases hx
theorem heap_of {ws : List (BitVec 64)} {l : List Nat} {b t : Nat} (ho : objF ws t (t + 1) b = some l) (hw : l.all (wellN ws l) = true) (htl : t ≤ ws.length) (hl : ws.length ≤ 8192) : Heap ws l b t where
  tl := htl
  wl := hl
  good := objF_mem _ _ _ ho
  gap := objF_gap _ _ _ ho
  ptr := fun a ha k hk => by
    have h1 := List.all_eq_true.1 hw a ha
    unfold wellN at h1
    rw [Bool.and_eq_true] at h1
    have h2 := List.all_eq_true.1 h1.1 k (List.mem_range.2 hk)
    unfold ptrN at h2
    exact of_decide_eq_true h2
theorem inv_start {ws : List (BitVec 64)} {l : List Nat} {b t m : Nat} (H : Heap ws l b t) (hm : m ≤ 8192) : InvC l ws b t ⟨ws, List.replicate m 0#64, 0⟩ :=
  ⟨fun a ha => ⟨(H.good a ha).1, (H.good a ha).2.1, H.tl, (goodX_out (H.good a ha).2.2).1, .inr (H.good a ha).2.2⟩, ⟨H.wl, by simp; omega, Nat.zero_le _⟩, rfl, fun _ _ => rfl, fun _ _ _ => rfl⟩
def finC (m : Nat) (c : Cy) (qs : List Nat) : Option (List Nat × Cy) := (goC (m + 1) 0 c).map fun d => (qs, d)
def contC (m : Nat) (ps : List Nat) (c : Cy) (qs : List Nat) : Option (List Nat × Cy) := match rootsC ps c with
  | none => none
  | some (q2, c2) => finC m c2 (qs ++ q2)
theorem contC_cons (m p : Nat) (ps : List Nat) (c : Cy) (qs : List Nat) : contC m (p :: ps) c qs = match takeP c p with
  | none => none
  | some (q, d) => contC m ps d (qs ++ [q]) := by
  unfold contC
  show (match (match takeP c p with | none => none | some (q, d) => match rootsC ps d with | none => none | some (qs, e) => some (q :: qs, e)) with | none => none | some (q2, c2) => finC m c2 (qs ++ q2)) = _
  cases takeP c p with
  | none => rfl
  | some z =>
    obtain ⟨q, d⟩ := z
    simp only
    cases rootsC ps d with
    | none => rfl
    | some z => obtain ⟨q2, e⟩ := z; simp only [List.append_assoc, List.singleton_append]
theorem copyC_cont (ws : List (BitVec 64)) (m : Nat) (ps : List Nat) : copyC ws m ps = contC m ps ⟨ws, List.replicate m 0#64, 0⟩ [] := by
  unfold copyC contC
  cases rootsC ps ⟨ws, List.replicate m 0#64, 0⟩ with
  | none => rfl
  | some z => obtain ⟨q, d⟩ := z; simp only [List.nil_append]; rfl
def rootP (r : Int) : Nat := (r + 1).toNat
theorem rootP_of {l : List Nat} {r : Int} (h : rootB l r = true) : r = (rootP r : Int) - 1 ∧ (rootP r = 0 ∨ (1 ≤ rootP r ∧ rootP r - 1 ∈ l)) := by
  unfold rootB at h
  rcases of_decide_eq_true h with rfl | ⟨y, hy, rfl⟩
  · exact ⟨rfl, .inl rfl⟩
  · have e : rootP (y : Int) = y + 1 := by unfold rootP; omega
    rw [e]
    exact ⟨by omega, .inr ⟨by omega, by simpa using hy⟩⟩
def backZ (qs : List Nat) : List Int := qs.map (fun q : Nat => (q : Int) - 1)
section
variable {B H1 H2 C s1 g1 : Nat} {v1 : Value} {s2 g2 : Nat} {v2 : Value} {b t e : Nat} {c : Cy}
set_option maxHeartbeats 1000000
set_option maxRecDepth 100000
theorem ctop_c (w : World) (p : CyAt w B H1 H2 C s1 g1 v1 s2 g2 v2 b t e c) : Calls Try.prog 46 #[.pointer (some ⟨C, 0, none⟩)] w (RetP (.int .i64 c.top) w) := by
  obtain ⟨c0, c1⟩ := p.blk.two
  obtain ⟨f0, f1, f2, f3⟩ := p.to_.four
  clear p
  go_enter Try.func46, Try.ntmps46
  go_wp2_with fail
  go_ret
  exact ⟨rfl, Below.refl _ _⟩
theorem cspace_c (w : World) (p : CyAt w B H1 H2 C s1 g1 v1 s2 g2 v2 b t e c) (hl : c.T.length ≤ 8192) : Calls Try.prog 45 #[.pointer (some ⟨C, 0, none⟩)] w fun r w' => ∃ s' g' v', r = .returned (.pointer (some ⟨s', 0, none⟩)) ∧ SpAt w' w.heap.size s' g' v' c.T 0 c.top c.T.length ∧ Below w.heap.size w w' := by
  have HA := Lib.hid (apart_c w B s2 g2 v2 c.T 0 c.top c.T.length p.to_ (by omega))
  obtain ⟨c0, c1⟩ := p.blk.two
  clear p hl
  go_enter Try.func45, Try.ntmps45
  go_wp2_with fail
  refine Calls.mono HA.out ?_
  rintro r w5 ⟨s1, g1, v1, rfl, hp5, b5⟩
  have H5 := Lib.hid (And.intro hp5 b5)
  clear hp5 b5
  go_wp2_with fail
  go_ret
  exact ⟨s1, g1, v1, rfl, H5.out.1, H5.out.2⟩
end
theorem CyAt.kept {S : Nat → Prop} {W W' : World} {B H1 H2 C s1 g1 : Nat} {v1 : Value} {s2 g2 : Nat} {v2 : Value} {b t e : Nat} {c : Cy} (h : CyAt W B H1 H2 C s1 g1 v1 s2 g2 v2 b t e c) (k : Kept S W W') (hS : ∀ j, S j → C < j) : CyAt W' B H1 H2 C s1 g1 v1 s2 g2 v2 b t e c := by
  have q1 := h.s2H
  have q2 := h.HC
  have n : ∀ j, j ≤ C → ¬ S j := fun j hj hs => by have := hS j hs; omega
  refine ⟨k.bk h.blk (n _ (Nat.le_refl _)), h.fr.kept k (n _ (Nat.le_of_lt h.s1C)) (n _ (Nat.le_of_lt h.g1C)) (fun j hj => n _ (Nat.le_of_lt (h.v1C j hj))), h.to_.kept k (n _ (by omega)) (n _ (by have := h.g2H; omega)) (fun j hj => n _ (by have := h.v2H j hj; omega)), h.g2H, h.v2H, h.s2H, h.s1C, h.g1C, h.v1C, h.HC, h.BH⟩
def CopyR (w : World) (m n : Nat) (x : Option (List Nat × Cy)) (r : Ending) (w' : World) : Prop := match x with
  | some (qs, d) => ∃ s' g' v' q, r = .returned (.tuple #[.pointer (some ⟨s', 0, none⟩), .slice (some ⟨q, 0, none⟩) n n, .int .i64 0]) ∧ SpAt w' w.heap.size s' g' v' d.T 0 d.top m ∧ d.T.length = m ∧ Ow zV 3 w' w.heap.size (.slice (some ⟨q, 0, none⟩) n n) (backZ qs) ∧ Below w.heap.size w w'
  | none => RetP (.tuple #[.pointer none, .slice none 0 0, .int .i64 6]) w r w'
set_option maxHeartbeats 4000000
set_option maxRecDepth 100000
end Go.Proofs.Ytbanbpphadgoiaa
