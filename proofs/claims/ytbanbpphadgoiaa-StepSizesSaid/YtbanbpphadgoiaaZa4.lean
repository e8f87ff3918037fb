/- Texts joined: StC StD StE EncA EncB EncC Only DecA. -/
import Derived.Test.YtbanbpphadgoiaaZa3
import Derived.Test.YtbanbpphadgoiaaRegT
import Derived.Test.YtbanbpphadgoiaaBel
import Derived.Test.YtbanbpphadgoiaaBitsB
import Derived.LoopTactic
import Derived.Deep.RegionLaw
import Derived.Deep.AppendLies
import Derived.Test.YtbanbpphadgoiaaRegV
/- A collector does what is next, once: it takes the next root. Conditions: lengths. -/
namespace Go.Proofs.Ytbanbpphadgoiaa
set_option linter.unusedVariables false
set_option linter.unusedSimpArgs false
open Go.RowKit Go.Maps
set_option maxHeartbeats 1000000
set_option maxRecDepth 100000
theorem oc3 (Q : Exit → Act → World → Prop) (a0 : Act) (w : World) (D C i N c : Nat) (ad : Addr) (A : Option Addr) (G : Nat → Prop) (y u er : Int) (K : World → Prop) (hQ : D < w.heap.size) (hQn : ¬ G D) (hA : A = some ad) (hlt : (ad.add i).block < w.heap.size) (hn : ¬ G (ad.add i).block) (c0 : w.cell? ⟨D, 0, none⟩ = some (.pointer (some ⟨C, 0, none⟩))) (c1 : w.cell? ⟨D, 1, none⟩ = some (.slice A N c)) (q0 : (0 : Int) ≤ (i : Int)) (q1 : (i : Int) < (N : Int)) (cr : w.cell? (ad.add i) = some (.int .i64 y)) (hK : ∀ a b, K a → Gw a b → K b) (hp : Hid (∀ W, Below w.heap.size w W → Calls Try.prog 51 #[.pointer (some ⟨C, 0, none⟩), .int .i64 y] W (fun e w2 => ∃ v, e = .returned v ∧ Kept G W w2 ∧ AndV (.tuple #[.int .i64 u, .int .i64 er]) K v w2))) (hsz : a0.tmps.size = 74) (sl0 : a0.tmps.getD 0 undef = .pointer (some ⟨D, 0, none⟩)) (sl3 : a0.tmps.getD 3 undef = .int .i64 (i : Int))
    (fin : ∀ (vals : Nat → Value) (w1 : World), Kept G w w1 → (IsV (.int .i64 u)) (vals 15) w1 → (IsV (.int .i64 er)) (vals 16) w1 → (AndV (.tuple #[.int .i64 u, .int .i64 er]) K) (vals 11) w1 → Q .normal (putO vals [some 21, some 22, some 23, some 24, some 25, some 26, some 27, some 28, some 29, some 30, some 31, some 32, some 20, some 33, some 34, some 4, some 5] 0 a0) w1) :
    (Code.region 3 (regIn Try.f42 3) true).wp Try.prog Q a0 w := by
  have hGs : ∀ (j : Nat) (v : Value) (w3 : World), (srcOf [] j = j → (([IsV (.pointer (some ⟨D, 0, none⟩)), IsV (.pointer (some ⟨D, 0, none⟩)), IsV (.pointer (some ⟨D, 0, none⟩)), IsV (.pointer (some ⟨C, 0, none⟩)), IsV (.pointer (some ⟨D, 0, none⟩)), IsV (.pointer (some ⟨D, 0, none⟩)), IsV (.pointer (some ⟨D, 1, none⟩)), IsV (.slice A N c), IsV (.int .i64 (i : Int)), IsV (.pointer (some (ad.add i))), IsV (.int .i64 y), AndV (.tuple #[.int .i64 u, .int .i64 er]) K, IsV (.tuple #[.int .i64 u, .int .i64 er]), IsV (.int .i64 u), IsV (.int .i64 er), IsV (.int .i64 u), IsV (.int .i64 er)] : List (Value → World → Prop)).getD j fun _ _ => True) v w3) → (([IsV (.pointer (some ⟨D, 0, none⟩)), IsV (.pointer (some ⟨D, 0, none⟩)), IsV (.pointer (some ⟨D, 0, none⟩)), IsV (.pointer (some ⟨C, 0, none⟩)), IsV (.pointer (some ⟨D, 0, none⟩)), IsV (.pointer (some ⟨D, 0, none⟩)), IsV (.pointer (some ⟨D, 1, none⟩)), IsV (.slice A N c), IsV (.int .i64 (i : Int)), IsV (.pointer (some (ad.add i))), IsV (.int .i64 y), AndV (.tuple #[.int .i64 u, .int .i64 er]) K, IsV (.tuple #[.int .i64 u, .int .i64 er]), IsV (.int .i64 u), IsV (.int .i64 er), IsV (.int .i64 u), IsV (.int .i64 er)] : List (Value → World → Prop)).getD j fun _ _ => True) v w3 := by
    intro j v w3 h
    match j, h with
    | 0, h => exact h rfl
    | 1, h => exact h rfl
    | 2, h => exact h rfl
    | 3, h => exact h rfl
    | 4, h => exact h rfl
    | 5, h => exact h rfl
    | 6, h => exact h rfl
    | 7, h => exact h rfl
    | 8, h => exact h rfl
    | 9, h => exact h rfl
    | 10, h => exact h rfl
    | 11, h => exact h rfl
    | 12, h => exact h rfl
    | 13, h => exact h rfl
    | 14, h => exact h rfl
    | 15, h => exact h rfl
    | 16, h => exact h rfl
    | _ + 17, _ => exact trivial
  refine region_byK [IsV (.pointer (some ⟨D, 0, none⟩)),
    IsV (.pointer (some ⟨D, 0, none⟩)),
    IsV (.pointer (some ⟨D, 0, none⟩)),
    IsV (.pointer (some ⟨C, 0, none⟩)),
    IsV (.pointer (some ⟨D, 0, none⟩)),
    IsV (.pointer (some ⟨D, 0, none⟩)),
    IsV (.pointer (some ⟨D, 1, none⟩)),
    IsV (.slice A N c),
    IsV (.int .i64 (i : Int)),
    IsV (.pointer (some (ad.add i))),
    IsV (.int .i64 y),
    AndV (.tuple #[.int .i64 u, .int .i64 er]) K,
    IsV (.tuple #[.int .i64 u, .int .i64 er]),
    IsV (.int .i64 u),
    IsV (.int .i64 er),
    IsV (.int .i64 u),
    IsV (.int .i64 er)] [(11, fun w w1 => Kept G w w1)] []
    [some 21, some 22, some 23, some 24, some 25, some 26, some 27, some 28, some 29, some 30, some 31, some 32, some 20, some 33, some 34, some 4, some 5] (fun w1 => Kept G w w1) (by kernel_rfl) (Kept.of_below (Gw.drew _) _) (fun _ _ h g => h.trans (Kept.of_below g _)) 11 (fun w1 => Below w.heap.size w w1) (Gw.drew _) (fun _ _ h g => h.trans (Below.mono g h.size)) (by intro p hp; simp only [List.mem_cons, List.not_mem_nil, or_false] at hp; subst hp; rfl) (by rw [hsz]; kernel_rfl) (by kernel_rfl) (by kernel_rfl) ?_ ?_ ?_ ?_
  · intro f hf
    simp only [List.mem_cons, List.not_mem_nil, or_false] at hf
    rcases hf with rfl | rfl | rfl | rfl | rfl | rfl | rfl | rfl | rfl | rfl | rfl | rfl | rfl | rfl | rfl | rfl | rfl <;> intro v a b h g <;> first | exact IsV.mono h | exact BoxV.mono h g | exact BoxC.mono h g | exact AndV.mono hK h g
  · intro p hp
    simp only [List.mem_cons, List.not_mem_nil, or_false] at hp
    rcases hp with rfl
    · refine ⟨fun a b h1 h2 => h1.trans h2, ?_⟩
      intro f hf
      simp only [List.eraseIdx_cons_succ, List.eraseIdx_cons_zero, List.mem_cons, List.not_mem_nil, or_false] at hf
      rcases hf with rfl | rfl | rfl | rfl | rfl | rfl | rfl | rfl | rfl | rfl | rfl | rfl | rfl | rfl | rfl | rfl <;> intro v a b h g <;> exact h
  · refine ⟨?_, ?_, ?_, ?_, ?_, ?_, ?_, ?_, ?_, ?_, ?_, ?_, ?_, ?_, ?_, ?_, ?_, trivial⟩
    · refine OwesG.mk2 (D := Gw) (F' := fun j => ([IsV (.pointer (some ⟨D, 0, none⟩)), IsV (.pointer (some ⟨D, 0, none⟩)), IsV (.pointer (some ⟨D, 0, none⟩)), IsV (.pointer (some ⟨C, 0, none⟩)), IsV (.pointer (some ⟨D, 0, none⟩)), IsV (.pointer (some ⟨D, 0, none⟩)), IsV (.pointer (some ⟨D, 1, none⟩)), IsV (.slice A N c), IsV (.int .i64 (i : Int)), IsV (.pointer (some (ad.add i))), IsV (.int .i64 y), AndV (.tuple #[.int .i64 u, .int .i64 er]) K, IsV (.tuple #[.int .i64 u, .int .i64 er]), IsV (.int .i64 u), IsV (.int .i64 er), IsV (.int .i64 u), IsV (.int .i64 er)] : List (Value → World → Prop)).getD j fun _ _ => True) rfl hGs (fun v w h => h) ?_
      exact owes_mvD gw_self 0 (by kernel_rfl) (by kernel_rfl) (by kernel_rfl) sl0 (fun _ => rfl)
    · refine OwesG.mk2 (D := Gw) (F' := fun j => ([IsV (.pointer (some ⟨D, 0, none⟩)), IsV (.pointer (some ⟨D, 0, none⟩)), IsV (.pointer (some ⟨D, 0, none⟩)), IsV (.pointer (some ⟨C, 0, none⟩)), IsV (.pointer (some ⟨D, 0, none⟩)), IsV (.pointer (some ⟨D, 0, none⟩)), IsV (.pointer (some ⟨D, 1, none⟩)), IsV (.slice A N c), IsV (.int .i64 (i : Int)), IsV (.pointer (some (ad.add i))), IsV (.int .i64 y), AndV (.tuple #[.int .i64 u, .int .i64 er]) K, IsV (.tuple #[.int .i64 u, .int .i64 er]), IsV (.int .i64 u), IsV (.int .i64 er), IsV (.int .i64 u), IsV (.int .i64 er)] : List (Value → World → Prop)).getD j fun _ _ => True) rfl hGs (fun v w h => h) ?_
      refine owes_vD (Go.Op.nilCheck (Go.Operand.tmp 21)) 0 [0] (by kernel_rfl) (by kernel_rfl) (by kernel_rfl) rfl fun vals w1 ρ hG hF hρ hcst hfun => ?_
      have e21 : ρ (.tmp 21) = .pointer (some ⟨D, 0, none⟩) := ((hρ 21).trans (slotJ [0] (by rw [hsz]; decide) (by kernel_rfl))).trans (hF 0 (by decide))
      obtain ⟨hG, _⟩ := hG
      clear hρ hF hGs hcst hfun sl0 sl3 fin
      exact opv_val (by go_simp <;> rfl) ⟨gw_self _, rfl⟩
    · refine OwesG.mk2 (D := Gw) (F' := fun j => ([IsV (.pointer (some ⟨D, 0, none⟩)), IsV (.pointer (some ⟨D, 0, none⟩)), IsV (.pointer (some ⟨D, 0, none⟩)), IsV (.pointer (some ⟨C, 0, none⟩)), IsV (.pointer (some ⟨D, 0, none⟩)), IsV (.pointer (some ⟨D, 0, none⟩)), IsV (.pointer (some ⟨D, 1, none⟩)), IsV (.slice A N c), IsV (.int .i64 (i : Int)), IsV (.pointer (some (ad.add i))), IsV (.int .i64 y), AndV (.tuple #[.int .i64 u, .int .i64 er]) K, IsV (.tuple #[.int .i64 u, .int .i64 er]), IsV (.int .i64 u), IsV (.int .i64 er), IsV (.int .i64 u), IsV (.int .i64 er)] : List (Value → World → Prop)).getD j fun _ _ => True) rfl hGs (fun v w h => h) ?_
      refine owes_vD (Go.Op.fieldAddr 84 (Go.Operand.tmp 22) 0) 0 [1] (by kernel_rfl) (by kernel_rfl) (by kernel_rfl) rfl fun vals w1 ρ hG hF hρ hcst hfun => ?_
      have e22 : ρ (.tmp 22) = .pointer (some ⟨D, 0, none⟩) := ((hρ 22).trans (slotJ [1] (by rw [hsz]; decide) (by kernel_rfl))).trans (hF 1 (by decide))
      obtain ⟨hG, _⟩ := hG
      clear hρ hF hGs hcst hfun sl0 sl3 fin
      exact opv_val (by go_simp <;> rfl) ⟨gw_self _, rfl⟩
    · refine OwesG.mk2 (D := Gw) (F' := fun j => ([IsV (.pointer (some ⟨D, 0, none⟩)), IsV (.pointer (some ⟨D, 0, none⟩)), IsV (.pointer (some ⟨D, 0, none⟩)), IsV (.pointer (some ⟨C, 0, none⟩)), IsV (.pointer (some ⟨D, 0, none⟩)), IsV (.pointer (some ⟨D, 0, none⟩)), IsV (.pointer (some ⟨D, 1, none⟩)), IsV (.slice A N c), IsV (.int .i64 (i : Int)), IsV (.pointer (some (ad.add i))), IsV (.int .i64 y), AndV (.tuple #[.int .i64 u, .int .i64 er]) K, IsV (.tuple #[.int .i64 u, .int .i64 er]), IsV (.int .i64 u), IsV (.int .i64 er), IsV (.int .i64 u), IsV (.int .i64 er)] : List (Value → World → Prop)).getD j fun _ _ => True) rfl hGs (fun v w h => h) ?_
      refine owes_vD (Go.Op.load 79 (Go.Operand.tmp 23)) 79 [2] (by kernel_rfl) (by kernel_rfl) (by kernel_rfl) rfl fun vals w1 ρ hG hF hρ hcst hfun => ?_
      have e23 : ρ (.tmp 23) = .pointer (some ⟨D, 0, none⟩) := ((hρ 23).trans (slotJ [2] (by rw [hsz]; decide) (by kernel_rfl))).trans (hF 2 (by decide))
      obtain ⟨hG, _⟩ := hG
      have k := (hG.cell (p := ⟨D, 0, none⟩) hQ hQn).trans c0
      clear hρ hF hGs hcst hfun sl0 sl3 fin
      exact opv_val (by go_simp <;> rfl) ⟨gw_self _, rfl⟩
    · refine OwesG.mk2 (D := Gw) (F' := fun j => ([IsV (.pointer (some ⟨D, 0, none⟩)), IsV (.pointer (some ⟨D, 0, none⟩)), IsV (.pointer (some ⟨D, 0, none⟩)), IsV (.pointer (some ⟨C, 0, none⟩)), IsV (.pointer (some ⟨D, 0, none⟩)), IsV (.pointer (some ⟨D, 0, none⟩)), IsV (.pointer (some ⟨D, 1, none⟩)), IsV (.slice A N c), IsV (.int .i64 (i : Int)), IsV (.pointer (some (ad.add i))), IsV (.int .i64 y), AndV (.tuple #[.int .i64 u, .int .i64 er]) K, IsV (.tuple #[.int .i64 u, .int .i64 er]), IsV (.int .i64 u), IsV (.int .i64 er), IsV (.int .i64 u), IsV (.int .i64 er)] : List (Value → World → Prop)).getD j fun _ _ => True) rfl hGs (fun v w h => h) ?_
      exact owes_mvD gw_self 0 (by kernel_rfl) (by kernel_rfl) (by kernel_rfl) sl0 (fun _ => rfl)
    · refine OwesG.mk2 (D := Gw) (F' := fun j => ([IsV (.pointer (some ⟨D, 0, none⟩)), IsV (.pointer (some ⟨D, 0, none⟩)), IsV (.pointer (some ⟨D, 0, none⟩)), IsV (.pointer (some ⟨C, 0, none⟩)), IsV (.pointer (some ⟨D, 0, none⟩)), IsV (.pointer (some ⟨D, 0, none⟩)), IsV (.pointer (some ⟨D, 1, none⟩)), IsV (.slice A N c), IsV (.int .i64 (i : Int)), IsV (.pointer (some (ad.add i))), IsV (.int .i64 y), AndV (.tuple #[.int .i64 u, .int .i64 er]) K, IsV (.tuple #[.int .i64 u, .int .i64 er]), IsV (.int .i64 u), IsV (.int .i64 er), IsV (.int .i64 u), IsV (.int .i64 er)] : List (Value → World → Prop)).getD j fun _ _ => True) rfl hGs (fun v w h => h) ?_
      refine owes_vD (Go.Op.nilCheck (Go.Operand.tmp 25)) 0 [4] (by kernel_rfl) (by kernel_rfl) (by kernel_rfl) rfl fun vals w1 ρ hG hF hρ hcst hfun => ?_
      have e25 : ρ (.tmp 25) = .pointer (some ⟨D, 0, none⟩) := ((hρ 25).trans (slotJ [4] (by rw [hsz]; decide) (by kernel_rfl))).trans (hF 4 (by decide))
      obtain ⟨hG, _⟩ := hG
      clear hρ hF hGs hcst hfun sl0 sl3 fin
      exact opv_val (by go_simp <;> rfl) ⟨gw_self _, rfl⟩
    · refine OwesG.mk2 (D := Gw) (F' := fun j => ([IsV (.pointer (some ⟨D, 0, none⟩)), IsV (.pointer (some ⟨D, 0, none⟩)), IsV (.pointer (some ⟨D, 0, none⟩)), IsV (.pointer (some ⟨C, 0, none⟩)), IsV (.pointer (some ⟨D, 0, none⟩)), IsV (.pointer (some ⟨D, 0, none⟩)), IsV (.pointer (some ⟨D, 1, none⟩)), IsV (.slice A N c), IsV (.int .i64 (i : Int)), IsV (.pointer (some (ad.add i))), IsV (.int .i64 y), AndV (.tuple #[.int .i64 u, .int .i64 er]) K, IsV (.tuple #[.int .i64 u, .int .i64 er]), IsV (.int .i64 u), IsV (.int .i64 er), IsV (.int .i64 u), IsV (.int .i64 er)] : List (Value → World → Prop)).getD j fun _ _ => True) rfl hGs (fun v w h => h) ?_
      refine owes_vD (Go.Op.fieldAddr 84 (Go.Operand.tmp 26) 1) 0 [5] (by kernel_rfl) (by kernel_rfl) (by kernel_rfl) rfl fun vals w1 ρ hG hF hρ hcst hfun => ?_
      have e26 : ρ (.tmp 26) = .pointer (some ⟨D, 0, none⟩) := ((hρ 26).trans (slotJ [5] (by rw [hsz]; decide) (by kernel_rfl))).trans (hF 5 (by decide))
      obtain ⟨hG, _⟩ := hG
      clear hρ hF hGs hcst hfun sl0 sl3 fin
      exact opv_val (by go_simp <;> rfl) ⟨gw_self _, rfl⟩
    · refine OwesG.mk2 (D := Gw) (F' := fun j => ([IsV (.pointer (some ⟨D, 0, none⟩)), IsV (.pointer (some ⟨D, 0, none⟩)), IsV (.pointer (some ⟨D, 0, none⟩)), IsV (.pointer (some ⟨C, 0, none⟩)), IsV (.pointer (some ⟨D, 0, none⟩)), IsV (.pointer (some ⟨D, 0, none⟩)), IsV (.pointer (some ⟨D, 1, none⟩)), IsV (.slice A N c), IsV (.int .i64 (i : Int)), IsV (.pointer (some (ad.add i))), IsV (.int .i64 y), AndV (.tuple #[.int .i64 u, .int .i64 er]) K, IsV (.tuple #[.int .i64 u, .int .i64 er]), IsV (.int .i64 u), IsV (.int .i64 er), IsV (.int .i64 u), IsV (.int .i64 er)] : List (Value → World → Prop)).getD j fun _ _ => True) rfl hGs (fun v w h => h) ?_
      refine owes_vD (Go.Op.load 23 (Go.Operand.tmp 27)) 23 [6] (by kernel_rfl) (by kernel_rfl) (by kernel_rfl) rfl fun vals w1 ρ hG hF hρ hcst hfun => ?_
      have e27 : ρ (.tmp 27) = .pointer (some ⟨D, 1, none⟩) := ((hρ 27).trans (slotJ [6] (by rw [hsz]; decide) (by kernel_rfl))).trans (hF 6 (by decide))
      obtain ⟨hG, _⟩ := hG
      have k := (hG.cell (p := ⟨D, 1, none⟩) hQ hQn).trans c1
      clear hρ hF hGs hcst hfun sl0 sl3 fin
      exact opv_val (by go_simp <;> rfl) ⟨gw_self _, rfl⟩
    · refine OwesG.mk2 (D := Gw) (F' := fun j => ([IsV (.pointer (some ⟨D, 0, none⟩)), IsV (.pointer (some ⟨D, 0, none⟩)), IsV (.pointer (some ⟨D, 0, none⟩)), IsV (.pointer (some ⟨C, 0, none⟩)), IsV (.pointer (some ⟨D, 0, none⟩)), IsV (.pointer (some ⟨D, 0, none⟩)), IsV (.pointer (some ⟨D, 1, none⟩)), IsV (.slice A N c), IsV (.int .i64 (i : Int)), IsV (.pointer (some (ad.add i))), IsV (.int .i64 y), AndV (.tuple #[.int .i64 u, .int .i64 er]) K, IsV (.tuple #[.int .i64 u, .int .i64 er]), IsV (.int .i64 u), IsV (.int .i64 er), IsV (.int .i64 u), IsV (.int .i64 er)] : List (Value → World → Prop)).getD j fun _ _ => True) rfl hGs (fun v w h => h) ?_
      exact owes_mvD gw_self 3 (by kernel_rfl) (by kernel_rfl) (by kernel_rfl) sl3 (fun _ => rfl)
    · refine OwesG.mk2 (D := Gw) (F' := fun j => ([IsV (.pointer (some ⟨D, 0, none⟩)), IsV (.pointer (some ⟨D, 0, none⟩)), IsV (.pointer (some ⟨D, 0, none⟩)), IsV (.pointer (some ⟨C, 0, none⟩)), IsV (.pointer (some ⟨D, 0, none⟩)), IsV (.pointer (some ⟨D, 0, none⟩)), IsV (.pointer (some ⟨D, 1, none⟩)), IsV (.slice A N c), IsV (.int .i64 (i : Int)), IsV (.pointer (some (ad.add i))), IsV (.int .i64 y), AndV (.tuple #[.int .i64 u, .int .i64 er]) K, IsV (.tuple #[.int .i64 u, .int .i64 er]), IsV (.int .i64 u), IsV (.int .i64 er), IsV (.int .i64 u), IsV (.int .i64 er)] : List (Value → World → Prop)).getD j fun _ _ => True) rfl hGs (fun v w h => h) ?_
      refine owes_vD (Go.Op.indexAddr 23 (Go.Operand.tmp 28) (Go.Operand.tmp 29)) 0 [7, 8] (by kernel_rfl) (by kernel_rfl) (by kernel_rfl) rfl fun vals w1 ρ hG hF hρ hcst hfun => ?_
      have e28 : ρ (.tmp 28) = .slice A N c := ((hρ 28).trans (slotJ [7, 8] (by rw [hsz]; decide) (by kernel_rfl))).trans (hF 7 (by decide))
      have e29 : ρ (.tmp 29) = .int .i64 (i : Int) := ((hρ 29).trans (slotJ [7, 8] (by rw [hsz]; decide) (by kernel_rfl))).trans (hF 8 (by decide))
      obtain ⟨hG, _⟩ := hG
      subst hA
      clear hρ hF hGs hcst hfun sl0 sl3 fin
      exact opv_val (by go_simp <;> rfl) ⟨gw_self _, rfl⟩
    · refine OwesG.mk2 (D := Gw) (F' := fun j => ([IsV (.pointer (some ⟨D, 0, none⟩)), IsV (.pointer (some ⟨D, 0, none⟩)), IsV (.pointer (some ⟨D, 0, none⟩)), IsV (.pointer (some ⟨C, 0, none⟩)), IsV (.pointer (some ⟨D, 0, none⟩)), IsV (.pointer (some ⟨D, 0, none⟩)), IsV (.pointer (some ⟨D, 1, none⟩)), IsV (.slice A N c), IsV (.int .i64 (i : Int)), IsV (.pointer (some (ad.add i))), IsV (.int .i64 y), AndV (.tuple #[.int .i64 u, .int .i64 er]) K, IsV (.tuple #[.int .i64 u, .int .i64 er]), IsV (.int .i64 u), IsV (.int .i64 er), IsV (.int .i64 u), IsV (.int .i64 er)] : List (Value → World → Prop)).getD j fun _ _ => True) rfl hGs (fun v w h => h) ?_
      refine owes_vD (Go.Op.load 3 (Go.Operand.tmp 30)) 3 [9] (by kernel_rfl) (by kernel_rfl) (by kernel_rfl) rfl fun vals w1 ρ hG hF hρ hcst hfun => ?_
      have e30 : ρ (.tmp 30) = .pointer (some (ad.add i)) := ((hρ 30).trans (slotJ [9] (by rw [hsz]; decide) (by kernel_rfl))).trans (hF 9 (by decide))
      obtain ⟨hG, _⟩ := hG
      have k := (hG.cell (p := ad.add i) hlt hn).trans cr
      clear hρ hF hGs hcst hfun sl0 sl3 fin
      exact opv_val (by go_simp <;> rfl) ⟨gw_self _, rfl⟩
    · refine OwesG.mk2 (D := fun w w1 => Kept G w w1) (F' := fun j => ([IsV (.pointer (some ⟨D, 0, none⟩)), IsV (.pointer (some ⟨D, 0, none⟩)), IsV (.pointer (some ⟨D, 0, none⟩)), IsV (.pointer (some ⟨C, 0, none⟩)), IsV (.pointer (some ⟨D, 0, none⟩)), IsV (.pointer (some ⟨D, 0, none⟩)), IsV (.pointer (some ⟨D, 1, none⟩)), IsV (.slice A N c), IsV (.int .i64 (i : Int)), IsV (.pointer (some (ad.add i))), IsV (.int .i64 y), AndV (.tuple #[.int .i64 u, .int .i64 er]) K, IsV (.tuple #[.int .i64 u, .int .i64 er]), IsV (.int .i64 u), IsV (.int .i64 er), IsV (.int .i64 u), IsV (.int .i64 er)] : List (Value → World → Prop)).getD j fun _ _ => True) rfl hGs (fun v w h => h) ?_
      refine owes_vD (Go.Op.call { callee := Go.Callee.value (Go.Operand.func 51), args := #[Go.Operand.tmp 24, Go.Operand.tmp 31], argTypes := #[79, 3] }) 73 [3, 10] (by kernel_rfl) (by kernel_rfl) (by kernel_rfl) rfl fun vals w1 ρ hG hF hρ hcst hfun => ?_
      have e24 : ρ (.tmp 24) = .pointer (some ⟨C, 0, none⟩) := ((hρ 24).trans (slotJ [3, 10] (by rw [hsz]; decide) (by kernel_rfl))).trans (hF 3 (by decide))
      have e31 : ρ (.tmp 31) = .int .i64 y := ((hρ 31).trans (slotJ [3, 10] (by rw [hsz]; decide) (by kernel_rfl))).trans (hF 10 (by decide))
      obtain ⟨hG, hPre⟩ := hG; have hPre : Below w.heap.size w w1 := hPre
      clear hρ hF hGs hcst sl0 sl3 fin
      exact opv_enter (by go_simp <;> rfl) (hp.out w1 hPre)
    · refine OwesG.mk2 (D := Gw) (F' := fun j => ([IsV (.pointer (some ⟨D, 0, none⟩)), IsV (.pointer (some ⟨D, 0, none⟩)), IsV (.pointer (some ⟨D, 0, none⟩)), IsV (.pointer (some ⟨C, 0, none⟩)), IsV (.pointer (some ⟨D, 0, none⟩)), IsV (.pointer (some ⟨D, 0, none⟩)), IsV (.pointer (some ⟨D, 1, none⟩)), IsV (.slice A N c), IsV (.int .i64 (i : Int)), IsV (.pointer (some (ad.add i))), IsV (.int .i64 y), AndV (.tuple #[.int .i64 u, .int .i64 er]) K, IsV (.tuple #[.int .i64 u, .int .i64 er]), IsV (.int .i64 u), IsV (.int .i64 er), IsV (.int .i64 u), IsV (.int .i64 er)] : List (Value → World → Prop)).getD j fun _ _ => True) rfl hGs (fun v w h => h) ?_
      exact owes_mvjD gw_self 11 32 (by kernel_rfl) (by kernel_rfl) (by kernel_rfl) (by kernel_rfl) (by rw [hsz]; decide) (fun v w h => h.1)
    · refine OwesG.mk2 (D := Gw) (F' := fun j => ([IsV (.pointer (some ⟨D, 0, none⟩)), IsV (.pointer (some ⟨D, 0, none⟩)), IsV (.pointer (some ⟨D, 0, none⟩)), IsV (.pointer (some ⟨C, 0, none⟩)), IsV (.pointer (some ⟨D, 0, none⟩)), IsV (.pointer (some ⟨D, 0, none⟩)), IsV (.pointer (some ⟨D, 1, none⟩)), IsV (.slice A N c), IsV (.int .i64 (i : Int)), IsV (.pointer (some (ad.add i))), IsV (.int .i64 y), AndV (.tuple #[.int .i64 u, .int .i64 er]) K, IsV (.tuple #[.int .i64 u, .int .i64 er]), IsV (.int .i64 u), IsV (.int .i64 er), IsV (.int .i64 u), IsV (.int .i64 er)] : List (Value → World → Prop)).getD j fun _ _ => True) rfl hGs (fun v w h => h) ?_
      refine owes_vD (Go.Op.extract (Go.Operand.tmp 20) 0) 3 [12] (by kernel_rfl) (by kernel_rfl) (by kernel_rfl) rfl fun vals w1 ρ hG hF hρ hcst hfun => ?_
      have e20 : ρ (.tmp 20) = .tuple #[.int .i64 u, .int .i64 er] := ((hρ 20).trans (slotJ [12] (by rw [hsz]; decide) (by kernel_rfl))).trans (hF 12 (by decide))
      obtain ⟨hG, _⟩ := hG
      clear hρ hF hGs hcst hfun sl0 sl3 fin
      exact opv_val (by go_simp <;> rfl) ⟨gw_self _, rfl⟩
    · refine OwesG.mk2 (D := Gw) (F' := fun j => ([IsV (.pointer (some ⟨D, 0, none⟩)), IsV (.pointer (some ⟨D, 0, none⟩)), IsV (.pointer (some ⟨D, 0, none⟩)), IsV (.pointer (some ⟨C, 0, none⟩)), IsV (.pointer (some ⟨D, 0, none⟩)), IsV (.pointer (some ⟨D, 0, none⟩)), IsV (.pointer (some ⟨D, 1, none⟩)), IsV (.slice A N c), IsV (.int .i64 (i : Int)), IsV (.pointer (some (ad.add i))), IsV (.int .i64 y), AndV (.tuple #[.int .i64 u, .int .i64 er]) K, IsV (.tuple #[.int .i64 u, .int .i64 er]), IsV (.int .i64 u), IsV (.int .i64 er), IsV (.int .i64 u), IsV (.int .i64 er)] : List (Value → World → Prop)).getD j fun _ _ => True) rfl hGs (fun v w h => h) ?_
      refine owes_vD (Go.Op.extract (Go.Operand.tmp 20) 1) 32 [12] (by kernel_rfl) (by kernel_rfl) (by kernel_rfl) rfl fun vals w1 ρ hG hF hρ hcst hfun => ?_
      have e20 : ρ (.tmp 20) = .tuple #[.int .i64 u, .int .i64 er] := ((hρ 20).trans (slotJ [12] (by rw [hsz]; decide) (by kernel_rfl))).trans (hF 12 (by decide))
      obtain ⟨hG, _⟩ := hG
      clear hρ hF hGs hcst hfun sl0 sl3 fin
      exact opv_val (by go_simp <;> rfl) ⟨gw_self _, rfl⟩
    · refine OwesG.mk2 (D := Gw) (F' := fun j => ([IsV (.pointer (some ⟨D, 0, none⟩)), IsV (.pointer (some ⟨D, 0, none⟩)), IsV (.pointer (some ⟨D, 0, none⟩)), IsV (.pointer (some ⟨C, 0, none⟩)), IsV (.pointer (some ⟨D, 0, none⟩)), IsV (.pointer (some ⟨D, 0, none⟩)), IsV (.pointer (some ⟨D, 1, none⟩)), IsV (.slice A N c), IsV (.int .i64 (i : Int)), IsV (.pointer (some (ad.add i))), IsV (.int .i64 y), AndV (.tuple #[.int .i64 u, .int .i64 er]) K, IsV (.tuple #[.int .i64 u, .int .i64 er]), IsV (.int .i64 u), IsV (.int .i64 er), IsV (.int .i64 u), IsV (.int .i64 er)] : List (Value → World → Prop)).getD j fun _ _ => True) rfl hGs (fun v w h => h) ?_
      exact owes_mvjD gw_self 13 33 (by kernel_rfl) (by kernel_rfl) (by kernel_rfl) (by kernel_rfl) (by rw [hsz]; decide) (fun v w h => h)
    · refine OwesG.mk2 (D := Gw) (F' := fun j => ([IsV (.pointer (some ⟨D, 0, none⟩)), IsV (.pointer (some ⟨D, 0, none⟩)), IsV (.pointer (some ⟨D, 0, none⟩)), IsV (.pointer (some ⟨C, 0, none⟩)), IsV (.pointer (some ⟨D, 0, none⟩)), IsV (.pointer (some ⟨D, 0, none⟩)), IsV (.pointer (some ⟨D, 1, none⟩)), IsV (.slice A N c), IsV (.int .i64 (i : Int)), IsV (.pointer (some (ad.add i))), IsV (.int .i64 y), AndV (.tuple #[.int .i64 u, .int .i64 er]) K, IsV (.tuple #[.int .i64 u, .int .i64 er]), IsV (.int .i64 u), IsV (.int .i64 er), IsV (.int .i64 u), IsV (.int .i64 er)] : List (Value → World → Prop)).getD j fun _ _ => True) rfl hGs (fun v w h => h) ?_
      exact owes_mvjD gw_self 14 34 (by kernel_rfl) (by kernel_rfl) (by kernel_rfl) (by kernel_rfl) (by rw [hsz]; decide) (fun v w h => h)
  · intro vals w1 hG hF
    exact fin vals w1 hG (hF 15 (by decide +kernel)) (hF 16 (by decide +kernel)) (hF 11 (by decide +kernel))
theorem oc7 (Q : Exit → Act → World → Prop) (a0 : Act) (w : World) (D C : Nat) (G : Nat → Prop) (y u er : Int) (K : World → Prop) (hQ : D < w.heap.size) (hQn : ¬ G D) (c0 : w.cell? ⟨D, 0, none⟩ = some (.pointer (some ⟨C, 0, none⟩))) (c3 : w.cell? ⟨D, 3, none⟩ = some (.int .i64 y)) (hK : ∀ a b, K a → Gw a b → K b) (hp : Hid (∀ W, Below w.heap.size w W → Calls Try.prog 52 #[.pointer (some ⟨C, 0, none⟩), .int .i64 y] W (fun e w2 => ∃ v, e = .returned v ∧ Kept G W w2 ∧ AndV (.tuple #[.int .i64 u, .int .i64 er]) K v w2))) (hsz : a0.tmps.size = 74) (sl0 : a0.tmps.getD 0 undef = .pointer (some ⟨D, 0, none⟩))
    (fin : ∀ (vals : Nat → Value) (w1 : World), Kept G w w1 → (IsV (.int .i64 u)) (vals 12) w1 → (IsV (.int .i64 er)) (vals 13) w1 → (AndV (.tuple #[.int .i64 u, .int .i64 er]) K) (vals 8) w1 → Q .normal (putO vals [some 49, some 50, some 51, some 52, some 53, some 54, some 55, some 56, some 57, some 48, some 58, some 59, some 6, some 7] 0 a0) w1) :
    (Code.region 7 (regIn Try.f42 7) true).wp Try.prog Q a0 w := by
  have hGs : ∀ (j : Nat) (v : Value) (w3 : World), (srcOf [] j = j → (([IsV (.pointer (some ⟨D, 0, none⟩)), IsV (.pointer (some ⟨D, 0, none⟩)), IsV (.pointer (some ⟨D, 0, none⟩)), IsV (.pointer (some ⟨C, 0, none⟩)), IsV (.pointer (some ⟨D, 0, none⟩)), IsV (.pointer (some ⟨D, 0, none⟩)), IsV (.pointer (some ⟨D, 3, none⟩)), IsV (.int .i64 y), AndV (.tuple #[.int .i64 u, .int .i64 er]) K, IsV (.tuple #[.int .i64 u, .int .i64 er]), IsV (.int .i64 u), IsV (.int .i64 er), IsV (.int .i64 u), IsV (.int .i64 er)] : List (Value → World → Prop)).getD j fun _ _ => True) v w3) → (([IsV (.pointer (some ⟨D, 0, none⟩)), IsV (.pointer (some ⟨D, 0, none⟩)), IsV (.pointer (some ⟨D, 0, none⟩)), IsV (.pointer (some ⟨C, 0, none⟩)), IsV (.pointer (some ⟨D, 0, none⟩)), IsV (.pointer (some ⟨D, 0, none⟩)), IsV (.pointer (some ⟨D, 3, none⟩)), IsV (.int .i64 y), AndV (.tuple #[.int .i64 u, .int .i64 er]) K, IsV (.tuple #[.int .i64 u, .int .i64 er]), IsV (.int .i64 u), IsV (.int .i64 er), IsV (.int .i64 u), IsV (.int .i64 er)] : List (Value → World → Prop)).getD j fun _ _ => True) v w3 := by
    intro j v w3 h
    match j, h with
    | 0, h => exact h rfl
    | 1, h => exact h rfl
    | 2, h => exact h rfl
    | 3, h => exact h rfl
    | 4, h => exact h rfl
    | 5, h => exact h rfl
    | 6, h => exact h rfl
    | 7, h => exact h rfl
    | 8, h => exact h rfl
    | 9, h => exact h rfl
    | 10, h => exact h rfl
    | 11, h => exact h rfl
    | 12, h => exact h rfl
    | 13, h => exact h rfl
    | _ + 14, _ => exact trivial
  refine region_byK [IsV (.pointer (some ⟨D, 0, none⟩)),
    IsV (.pointer (some ⟨D, 0, none⟩)),
    IsV (.pointer (some ⟨D, 0, none⟩)),
    IsV (.pointer (some ⟨C, 0, none⟩)),
    IsV (.pointer (some ⟨D, 0, none⟩)),
    IsV (.pointer (some ⟨D, 0, none⟩)),
    IsV (.pointer (some ⟨D, 3, none⟩)),
    IsV (.int .i64 y),
    AndV (.tuple #[.int .i64 u, .int .i64 er]) K,
    IsV (.tuple #[.int .i64 u, .int .i64 er]),
    IsV (.int .i64 u),
    IsV (.int .i64 er),
    IsV (.int .i64 u),
    IsV (.int .i64 er)] [(8, fun w w1 => Kept G w w1)] []
    [some 49, some 50, some 51, some 52, some 53, some 54, some 55, some 56, some 57, some 48, some 58, some 59, some 6, some 7] (fun w1 => Kept G w w1) (by kernel_rfl) (Kept.of_below (Gw.drew _) _) (fun _ _ h g => h.trans (Kept.of_below g _)) 8 (fun w1 => Below w.heap.size w w1) (Gw.drew _) (fun _ _ h g => h.trans (Below.mono g h.size)) (by intro p hp; simp only [List.mem_cons, List.not_mem_nil, or_false] at hp; subst hp; rfl) (by rw [hsz]; kernel_rfl) (by kernel_rfl) (by kernel_rfl) ?_ ?_ ?_ ?_
  · intro f hf
    simp only [List.mem_cons, List.not_mem_nil, or_false] at hf
    rcases hf with rfl | rfl | rfl | rfl | rfl | rfl | rfl | rfl | rfl | rfl | rfl | rfl | rfl | rfl <;> intro v a b h g <;> first | exact IsV.mono h | exact BoxV.mono h g | exact BoxC.mono h g | exact AndV.mono hK h g
  · intro p hp
    simp only [List.mem_cons, List.not_mem_nil, or_false] at hp
    rcases hp with rfl
    · refine ⟨fun a b h1 h2 => h1.trans h2, ?_⟩
      intro f hf
      simp only [List.eraseIdx_cons_succ, List.eraseIdx_cons_zero, List.mem_cons, List.not_mem_nil, or_false] at hf
      rcases hf with rfl | rfl | rfl | rfl | rfl | rfl | rfl | rfl | rfl | rfl | rfl | rfl | rfl <;> intro v a b h g <;> exact h
  · refine ⟨?_, ?_, ?_, ?_, ?_, ?_, ?_, ?_, ?_, ?_, ?_, ?_, ?_, ?_, trivial⟩
    · refine OwesG.mk2 (D := Gw) (F' := fun j => ([IsV (.pointer (some ⟨D, 0, none⟩)), IsV (.pointer (some ⟨D, 0, none⟩)), IsV (.pointer (some ⟨D, 0, none⟩)), IsV (.pointer (some ⟨C, 0, none⟩)), IsV (.pointer (some ⟨D, 0, none⟩)), IsV (.pointer (some ⟨D, 0, none⟩)), IsV (.pointer (some ⟨D, 3, none⟩)), IsV (.int .i64 y), AndV (.tuple #[.int .i64 u, .int .i64 er]) K, IsV (.tuple #[.int .i64 u, .int .i64 er]), IsV (.int .i64 u), IsV (.int .i64 er), IsV (.int .i64 u), IsV (.int .i64 er)] : List (Value → World → Prop)).getD j fun _ _ => True) rfl hGs (fun v w h => h) ?_
      exact owes_mvD gw_self 0 (by kernel_rfl) (by kernel_rfl) (by kernel_rfl) sl0 (fun _ => rfl)
    · refine OwesG.mk2 (D := Gw) (F' := fun j => ([IsV (.pointer (some ⟨D, 0, none⟩)), IsV (.pointer (some ⟨D, 0, none⟩)), IsV (.pointer (some ⟨D, 0, none⟩)), IsV (.pointer (some ⟨C, 0, none⟩)), IsV (.pointer (some ⟨D, 0, none⟩)), IsV (.pointer (some ⟨D, 0, none⟩)), IsV (.pointer (some ⟨D, 3, none⟩)), IsV (.int .i64 y), AndV (.tuple #[.int .i64 u, .int .i64 er]) K, IsV (.tuple #[.int .i64 u, .int .i64 er]), IsV (.int .i64 u), IsV (.int .i64 er), IsV (.int .i64 u), IsV (.int .i64 er)] : List (Value → World → Prop)).getD j fun _ _ => True) rfl hGs (fun v w h => h) ?_
      refine owes_vD (Go.Op.nilCheck (Go.Operand.tmp 49)) 0 [0] (by kernel_rfl) (by kernel_rfl) (by kernel_rfl) rfl fun vals w1 ρ hG hF hρ hcst hfun => ?_
      have e49 : ρ (.tmp 49) = .pointer (some ⟨D, 0, none⟩) := ((hρ 49).trans (slotJ [0] (by rw [hsz]; decide) (by kernel_rfl))).trans (hF 0 (by decide))
      obtain ⟨hG, _⟩ := hG
      clear hρ hF hGs hcst hfun sl0 fin
      exact opv_val (by go_simp <;> rfl) ⟨gw_self _, rfl⟩
    · refine OwesG.mk2 (D := Gw) (F' := fun j => ([IsV (.pointer (some ⟨D, 0, none⟩)), IsV (.pointer (some ⟨D, 0, none⟩)), IsV (.pointer (some ⟨D, 0, none⟩)), IsV (.pointer (some ⟨C, 0, none⟩)), IsV (.pointer (some ⟨D, 0, none⟩)), IsV (.pointer (some ⟨D, 0, none⟩)), IsV (.pointer (some ⟨D, 3, none⟩)), IsV (.int .i64 y), AndV (.tuple #[.int .i64 u, .int .i64 er]) K, IsV (.tuple #[.int .i64 u, .int .i64 er]), IsV (.int .i64 u), IsV (.int .i64 er), IsV (.int .i64 u), IsV (.int .i64 er)] : List (Value → World → Prop)).getD j fun _ _ => True) rfl hGs (fun v w h => h) ?_
      refine owes_vD (Go.Op.fieldAddr 84 (Go.Operand.tmp 50) 0) 0 [1] (by kernel_rfl) (by kernel_rfl) (by kernel_rfl) rfl fun vals w1 ρ hG hF hρ hcst hfun => ?_
      have e50 : ρ (.tmp 50) = .pointer (some ⟨D, 0, none⟩) := ((hρ 50).trans (slotJ [1] (by rw [hsz]; decide) (by kernel_rfl))).trans (hF 1 (by decide))
      obtain ⟨hG, _⟩ := hG
      clear hρ hF hGs hcst hfun sl0 fin
      exact opv_val (by go_simp <;> rfl) ⟨gw_self _, rfl⟩
    · refine OwesG.mk2 (D := Gw) (F' := fun j => ([IsV (.pointer (some ⟨D, 0, none⟩)), IsV (.pointer (some ⟨D, 0, none⟩)), IsV (.pointer (some ⟨D, 0, none⟩)), IsV (.pointer (some ⟨C, 0, none⟩)), IsV (.pointer (some ⟨D, 0, none⟩)), IsV (.pointer (some ⟨D, 0, none⟩)), IsV (.pointer (some ⟨D, 3, none⟩)), IsV (.int .i64 y), AndV (.tuple #[.int .i64 u, .int .i64 er]) K, IsV (.tuple #[.int .i64 u, .int .i64 er]), IsV (.int .i64 u), IsV (.int .i64 er), IsV (.int .i64 u), IsV (.int .i64 er)] : List (Value → World → Prop)).getD j fun _ _ => True) rfl hGs (fun v w h => h) ?_
      refine owes_vD (Go.Op.load 79 (Go.Operand.tmp 51)) 79 [2] (by kernel_rfl) (by kernel_rfl) (by kernel_rfl) rfl fun vals w1 ρ hG hF hρ hcst hfun => ?_
      have e51 : ρ (.tmp 51) = .pointer (some ⟨D, 0, none⟩) := ((hρ 51).trans (slotJ [2] (by rw [hsz]; decide) (by kernel_rfl))).trans (hF 2 (by decide))
      obtain ⟨hG, _⟩ := hG
      have k := (hG.cell (p := ⟨D, 0, none⟩) hQ hQn).trans c0
      clear hρ hF hGs hcst hfun sl0 fin
      exact opv_val (by go_simp <;> rfl) ⟨gw_self _, rfl⟩
    · refine OwesG.mk2 (D := Gw) (F' := fun j => ([IsV (.pointer (some ⟨D, 0, none⟩)), IsV (.pointer (some ⟨D, 0, none⟩)), IsV (.pointer (some ⟨D, 0, none⟩)), IsV (.pointer (some ⟨C, 0, none⟩)), IsV (.pointer (some ⟨D, 0, none⟩)), IsV (.pointer (some ⟨D, 0, none⟩)), IsV (.pointer (some ⟨D, 3, none⟩)), IsV (.int .i64 y), AndV (.tuple #[.int .i64 u, .int .i64 er]) K, IsV (.tuple #[.int .i64 u, .int .i64 er]), IsV (.int .i64 u), IsV (.int .i64 er), IsV (.int .i64 u), IsV (.int .i64 er)] : List (Value → World → Prop)).getD j fun _ _ => True) rfl hGs (fun v w h => h) ?_
      exact owes_mvD gw_self 0 (by kernel_rfl) (by kernel_rfl) (by kernel_rfl) sl0 (fun _ => rfl)
    · refine OwesG.mk2 (D := Gw) (F' := fun j => ([IsV (.pointer (some ⟨D, 0, none⟩)), IsV (.pointer (some ⟨D, 0, none⟩)), IsV (.pointer (some ⟨D, 0, none⟩)), IsV (.pointer (some ⟨C, 0, none⟩)), IsV (.pointer (some ⟨D, 0, none⟩)), IsV (.pointer (some ⟨D, 0, none⟩)), IsV (.pointer (some ⟨D, 3, none⟩)), IsV (.int .i64 y), AndV (.tuple #[.int .i64 u, .int .i64 er]) K, IsV (.tuple #[.int .i64 u, .int .i64 er]), IsV (.int .i64 u), IsV (.int .i64 er), IsV (.int .i64 u), IsV (.int .i64 er)] : List (Value → World → Prop)).getD j fun _ _ => True) rfl hGs (fun v w h => h) ?_
      refine owes_vD (Go.Op.nilCheck (Go.Operand.tmp 53)) 0 [4] (by kernel_rfl) (by kernel_rfl) (by kernel_rfl) rfl fun vals w1 ρ hG hF hρ hcst hfun => ?_
      have e53 : ρ (.tmp 53) = .pointer (some ⟨D, 0, none⟩) := ((hρ 53).trans (slotJ [4] (by rw [hsz]; decide) (by kernel_rfl))).trans (hF 4 (by decide))
      obtain ⟨hG, _⟩ := hG
      clear hρ hF hGs hcst hfun sl0 fin
      exact opv_val (by go_simp <;> rfl) ⟨gw_self _, rfl⟩
    · refine OwesG.mk2 (D := Gw) (F' := fun j => ([IsV (.pointer (some ⟨D, 0, none⟩)), IsV (.pointer (some ⟨D, 0, none⟩)), IsV (.pointer (some ⟨D, 0, none⟩)), IsV (.pointer (some ⟨C, 0, none⟩)), IsV (.pointer (some ⟨D, 0, none⟩)), IsV (.pointer (some ⟨D, 0, none⟩)), IsV (.pointer (some ⟨D, 3, none⟩)), IsV (.int .i64 y), AndV (.tuple #[.int .i64 u, .int .i64 er]) K, IsV (.tuple #[.int .i64 u, .int .i64 er]), IsV (.int .i64 u), IsV (.int .i64 er), IsV (.int .i64 u), IsV (.int .i64 er)] : List (Value → World → Prop)).getD j fun _ _ => True) rfl hGs (fun v w h => h) ?_
      refine owes_vD (Go.Op.fieldAddr 84 (Go.Operand.tmp 54) 3) 0 [5] (by kernel_rfl) (by kernel_rfl) (by kernel_rfl) rfl fun vals w1 ρ hG hF hρ hcst hfun => ?_
      have e54 : ρ (.tmp 54) = .pointer (some ⟨D, 0, none⟩) := ((hρ 54).trans (slotJ [5] (by rw [hsz]; decide) (by kernel_rfl))).trans (hF 5 (by decide))
      obtain ⟨hG, _⟩ := hG
      clear hρ hF hGs hcst hfun sl0 fin
      exact opv_val (by go_simp <;> rfl) ⟨gw_self _, rfl⟩
    · refine OwesG.mk2 (D := Gw) (F' := fun j => ([IsV (.pointer (some ⟨D, 0, none⟩)), IsV (.pointer (some ⟨D, 0, none⟩)), IsV (.pointer (some ⟨D, 0, none⟩)), IsV (.pointer (some ⟨C, 0, none⟩)), IsV (.pointer (some ⟨D, 0, none⟩)), IsV (.pointer (some ⟨D, 0, none⟩)), IsV (.pointer (some ⟨D, 3, none⟩)), IsV (.int .i64 y), AndV (.tuple #[.int .i64 u, .int .i64 er]) K, IsV (.tuple #[.int .i64 u, .int .i64 er]), IsV (.int .i64 u), IsV (.int .i64 er), IsV (.int .i64 u), IsV (.int .i64 er)] : List (Value → World → Prop)).getD j fun _ _ => True) rfl hGs (fun v w h => h) ?_
      refine owes_vD (Go.Op.load 3 (Go.Operand.tmp 55)) 3 [6] (by kernel_rfl) (by kernel_rfl) (by kernel_rfl) rfl fun vals w1 ρ hG hF hρ hcst hfun => ?_
      have e55 : ρ (.tmp 55) = .pointer (some ⟨D, 3, none⟩) := ((hρ 55).trans (slotJ [6] (by rw [hsz]; decide) (by kernel_rfl))).trans (hF 6 (by decide))
      obtain ⟨hG, _⟩ := hG
      have k := (hG.cell (p := ⟨D, 3, none⟩) hQ hQn).trans c3
      clear hρ hF hGs hcst hfun sl0 fin
      exact opv_val (by go_simp <;> rfl) ⟨gw_self _, rfl⟩
    · refine OwesG.mk2 (D := fun w w1 => Kept G w w1) (F' := fun j => ([IsV (.pointer (some ⟨D, 0, none⟩)), IsV (.pointer (some ⟨D, 0, none⟩)), IsV (.pointer (some ⟨D, 0, none⟩)), IsV (.pointer (some ⟨C, 0, none⟩)), IsV (.pointer (some ⟨D, 0, none⟩)), IsV (.pointer (some ⟨D, 0, none⟩)), IsV (.pointer (some ⟨D, 3, none⟩)), IsV (.int .i64 y), AndV (.tuple #[.int .i64 u, .int .i64 er]) K, IsV (.tuple #[.int .i64 u, .int .i64 er]), IsV (.int .i64 u), IsV (.int .i64 er), IsV (.int .i64 u), IsV (.int .i64 er)] : List (Value → World → Prop)).getD j fun _ _ => True) rfl hGs (fun v w h => h) ?_
      refine owes_vD (Go.Op.call { callee := Go.Callee.value (Go.Operand.func 52), args := #[Go.Operand.tmp 52, Go.Operand.tmp 56], argTypes := #[79, 3] }) 73 [3, 7] (by kernel_rfl) (by kernel_rfl) (by kernel_rfl) rfl fun vals w1 ρ hG hF hρ hcst hfun => ?_
      have e52 : ρ (.tmp 52) = .pointer (some ⟨C, 0, none⟩) := ((hρ 52).trans (slotJ [3, 7] (by rw [hsz]; decide) (by kernel_rfl))).trans (hF 3 (by decide))
      have e56 : ρ (.tmp 56) = .int .i64 y := ((hρ 56).trans (slotJ [3, 7] (by rw [hsz]; decide) (by kernel_rfl))).trans (hF 7 (by decide))
      obtain ⟨hG, hPre⟩ := hG; have hPre : Below w.heap.size w w1 := hPre
      clear hρ hF hGs hcst sl0 fin
      exact opv_enter (by go_simp <;> rfl) (hp.out w1 hPre)
    · refine OwesG.mk2 (D := Gw) (F' := fun j => ([IsV (.pointer (some ⟨D, 0, none⟩)), IsV (.pointer (some ⟨D, 0, none⟩)), IsV (.pointer (some ⟨D, 0, none⟩)), IsV (.pointer (some ⟨C, 0, none⟩)), IsV (.pointer (some ⟨D, 0, none⟩)), IsV (.pointer (some ⟨D, 0, none⟩)), IsV (.pointer (some ⟨D, 3, none⟩)), IsV (.int .i64 y), AndV (.tuple #[.int .i64 u, .int .i64 er]) K, IsV (.tuple #[.int .i64 u, .int .i64 er]), IsV (.int .i64 u), IsV (.int .i64 er), IsV (.int .i64 u), IsV (.int .i64 er)] : List (Value → World → Prop)).getD j fun _ _ => True) rfl hGs (fun v w h => h) ?_
      exact owes_mvjD gw_self 8 57 (by kernel_rfl) (by kernel_rfl) (by kernel_rfl) (by kernel_rfl) (by rw [hsz]; decide) (fun v w h => h.1)
    · refine OwesG.mk2 (D := Gw) (F' := fun j => ([IsV (.pointer (some ⟨D, 0, none⟩)), IsV (.pointer (some ⟨D, 0, none⟩)), IsV (.pointer (some ⟨D, 0, none⟩)), IsV (.pointer (some ⟨C, 0, none⟩)), IsV (.pointer (some ⟨D, 0, none⟩)), IsV (.pointer (some ⟨D, 0, none⟩)), IsV (.pointer (some ⟨D, 3, none⟩)), IsV (.int .i64 y), AndV (.tuple #[.int .i64 u, .int .i64 er]) K, IsV (.tuple #[.int .i64 u, .int .i64 er]), IsV (.int .i64 u), IsV (.int .i64 er), IsV (.int .i64 u), IsV (.int .i64 er)] : List (Value → World → Prop)).getD j fun _ _ => True) rfl hGs (fun v w h => h) ?_
      refine owes_vD (Go.Op.extract (Go.Operand.tmp 48) 0) 3 [9] (by kernel_rfl) (by kernel_rfl) (by kernel_rfl) rfl fun vals w1 ρ hG hF hρ hcst hfun => ?_
      have e48 : ρ (.tmp 48) = .tuple #[.int .i64 u, .int .i64 er] := ((hρ 48).trans (slotJ [9] (by rw [hsz]; decide) (by kernel_rfl))).trans (hF 9 (by decide))
      obtain ⟨hG, _⟩ := hG
      clear hρ hF hGs hcst hfun sl0 fin
      exact opv_val (by go_simp <;> rfl) ⟨gw_self _, rfl⟩
    · refine OwesG.mk2 (D := Gw) (F' := fun j => ([IsV (.pointer (some ⟨D, 0, none⟩)), IsV (.pointer (some ⟨D, 0, none⟩)), IsV (.pointer (some ⟨D, 0, none⟩)), IsV (.pointer (some ⟨C, 0, none⟩)), IsV (.pointer (some ⟨D, 0, none⟩)), IsV (.pointer (some ⟨D, 0, none⟩)), IsV (.pointer (some ⟨D, 3, none⟩)), IsV (.int .i64 y), AndV (.tuple #[.int .i64 u, .int .i64 er]) K, IsV (.tuple #[.int .i64 u, .int .i64 er]), IsV (.int .i64 u), IsV (.int .i64 er), IsV (.int .i64 u), IsV (.int .i64 er)] : List (Value → World → Prop)).getD j fun _ _ => True) rfl hGs (fun v w h => h) ?_
      refine owes_vD (Go.Op.extract (Go.Operand.tmp 48) 1) 32 [9] (by kernel_rfl) (by kernel_rfl) (by kernel_rfl) rfl fun vals w1 ρ hG hF hρ hcst hfun => ?_
      have e48 : ρ (.tmp 48) = .tuple #[.int .i64 u, .int .i64 er] := ((hρ 48).trans (slotJ [9] (by rw [hsz]; decide) (by kernel_rfl))).trans (hF 9 (by decide))
      obtain ⟨hG, _⟩ := hG
      clear hρ hF hGs hcst hfun sl0 fin
      exact opv_val (by go_simp <;> rfl) ⟨gw_self _, rfl⟩
    · refine OwesG.mk2 (D := Gw) (F' := fun j => ([IsV (.pointer (some ⟨D, 0, none⟩)), IsV (.pointer (some ⟨D, 0, none⟩)), IsV (.pointer (some ⟨D, 0, none⟩)), IsV (.pointer (some ⟨C, 0, none⟩)), IsV (.pointer (some ⟨D, 0, none⟩)), IsV (.pointer (some ⟨D, 0, none⟩)), IsV (.pointer (some ⟨D, 3, none⟩)), IsV (.int .i64 y), AndV (.tuple #[.int .i64 u, .int .i64 er]) K, IsV (.tuple #[.int .i64 u, .int .i64 er]), IsV (.int .i64 u), IsV (.int .i64 er), IsV (.int .i64 u), IsV (.int .i64 er)] : List (Value → World → Prop)).getD j fun _ _ => True) rfl hGs (fun v w h => h) ?_
      exact owes_mvjD gw_self 10 58 (by kernel_rfl) (by kernel_rfl) (by kernel_rfl) (by kernel_rfl) (by rw [hsz]; decide) (fun v w h => h)
    · refine OwesG.mk2 (D := Gw) (F' := fun j => ([IsV (.pointer (some ⟨D, 0, none⟩)), IsV (.pointer (some ⟨D, 0, none⟩)), IsV (.pointer (some ⟨D, 0, none⟩)), IsV (.pointer (some ⟨C, 0, none⟩)), IsV (.pointer (some ⟨D, 0, none⟩)), IsV (.pointer (some ⟨D, 0, none⟩)), IsV (.pointer (some ⟨D, 3, none⟩)), IsV (.int .i64 y), AndV (.tuple #[.int .i64 u, .int .i64 er]) K, IsV (.tuple #[.int .i64 u, .int .i64 er]), IsV (.int .i64 u), IsV (.int .i64 er), IsV (.int .i64 u), IsV (.int .i64 er)] : List (Value → World → Prop)).getD j fun _ _ => True) rfl hGs (fun v w h => h) ?_
      exact owes_mvjD gw_self 11 59 (by kernel_rfl) (by kernel_rfl) (by kernel_rfl) (by kernel_rfl) (by rw [hsz]; decide) (fun v w h => h)
  · intro vals w1 hG hF
    exact fin vals w1 hG (hF 12 (by decide +kernel)) (hF 13 (by decide +kernel)) (hF 8 (by decide +kernel))
theorem ow_slc {α : Type} {f : α → Value} {E : TypeId} {w : World} {base : Nat} {v : Value} {xs : List α} (h : Ow f E w base v xs) : ∃ A n c, v = .slice A n c := by
  obtain ⟨A, c, e, _⟩ := h.form
  exact ⟨A, _, c, e⟩
def OnceP (w : World) (B : Nat) (S : Nat → Prop) (Q : Nat) (f : CoF) (roots : List Int) (xw : Value) (s : Sc) (n : Int) (x : Option Sc) (r : Ending) (w' : World) : Prop := match x with
  | some s' => r = .returned (.int .i64 0) ∧ Kept S w w' ∧ ∃ (S' : Nat → Prop) (xw' : Value), CoAt w' B S' Q f roots xw' s' (n + 1) false ∧ ∀ k, S' k → S k ∨ w.heap.size ≤ k
  | none => r = .returned (.int .i64 6) ∧ Kept S w w' ∧ ∃ s', CoAt w' B S Q f roots xw s' n false
section
variable {B Q : Nat} {S : Nat → Prop} {f : CoF} {roots : List Int} {xw : Value} {s : Sc} {n : Int} {l : List Nat}
theorem CoAt.cys {w : World} {full : Bool} (p : CoAt w B S Q f roots xw s n full) : (∀ k, CyS f.s2 f.v1 f.v2 k → S k ∧ k < f.C) ∧ ¬ CyS f.s2 f.v1 f.v2 Q := by
  refine ⟨fun k hk => ⟨?_, p.cy.lt_C k hk⟩, CyS.not_ge p.cy.lt_C (Nat.le_of_lt p.CQ)⟩
  rcases hk with h | h | h
  · exact p.inc k (by simp [h])
  · exact p.inc k (by simp [h])
  · exact p.inc k (by simp [h])
theorem CoAt.toCy {w w' : World} {full : Bool} {d : Cy} (p : CoAt w B S Q f roots xw s n full) (k : Kept (CyS f.s2 f.v1 f.v2) w w') (c : CyAt w' B f.H1 f.H2 f.C f.s1 f.g1 f.v1 f.s2 f.g2 f.v2 f.b f.t f.e d) : CoAt w' B S Q f roots xw ⟨d, s.qs, s.sc⟩ n full := by
  obtain ⟨h1, h2⟩ := p.cys
  refine ⟨c, k.bk p.blk h2, k.ow p.rr (fun j hj hs => ?_), k.ow p.ww (fun j hj hs => ?_), p.CQ, p.ne, p.neR, fun j hj => ⟨(p.own j hj).1, Nat.lt_of_lt_of_le (p.own j hj).2 k.size⟩, p.inc⟩
  · have := (p.rr.lt j hj).1; have := (h1 j hs).2; omega
  · have := (p.ww.lt j hj).1; have := (h1 j hs).2; omega
/-- What is turned when a root's new place is appended. -/
theorem CoAt.push {w4 w6 : World} {o : Obj} {v6 : Value} {d : Cy} {u : Int} {q : Nat} (p : CoAt w4 B S Q f roots xw ⟨d, s.qs, s.sc⟩ n false) (ho : Ow zV 3 w6 (f.C + 1) v6 (backZ s.qs ++ [u])) (hg : (w4.alloc o).grownBy w6 xw.ownBlock) (hv : v6.ownBlock = xw.ownBlock ∨ v6.ownBlock = some (w4.alloc o).heap.size) (hu : u = (q : Int) - 1) :
    Kept S w4 ((w6.setCell ⟨Q, 2, none⟩ v6).setCell ⟨Q, 4, none⟩ (.int .u64 (n + 1))) ∧ CoAt ((w6.setCell ⟨Q, 2, none⟩ v6).setCell ⟨Q, 4, none⟩ (.int .u64 (n + 1))) B (fun k => S k ∨ v6.ownBlock = some k) Q f roots v6 ⟨d, s.qs ++ [q], s.sc⟩ (n + 1) false ∧ ∀ k, v6.ownBlock = some k → S k ∨ w4.heap.size ≤ k := by
  have hsz : w4.heap.size ≤ (w4.alloc o).heap.size := (Gw.alloc w4 o).size
  have K1 := Kept.grown hg
  have K2 := Kept.set w6 Q 2 v6
  have K3 := Kept.set (w6.setCell ⟨Q, 2, none⟩ v6) Q 4 (.int .u64 (n + 1))
  have hQ := p.blk.lt
  have hxw := fun j hj => (p.ww.lt j hj)
  have hxr := fun j hj => (p.rr.lt j hj)
  have SQ : S Q := p.inc Q (by simp)
  have Sx : ∀ k, xw.ownBlock = some k → S k := fun k hk => p.inc k (by simp [hk])
  have n6 : ∀ k, v6.ownBlock = some k → k ≠ Q ∧ f.xr.ownBlock ≠ some k ∧ (S k ∨ w4.heap.size ≤ k) := by
    intro k hk
    rcases hv with h | h
    · rw [hk] at h
      obtain ⟨h1, h2⟩ := p.ne k h.symm
      exact ⟨h1, h2, .inl (Sx k h.symm)⟩
    · rw [hk] at h
      injection h with h
      exact ⟨by omega, fun e => by have := (hxr _ e).2; omega, .inr (by omega)⟩
  have s1 := K1.size
  have s2 := K2.size
  have s3 := K3.size
  have hq : backZ s.qs ++ [u] = backZ (s.qs ++ [q]) := by simp [backZ, hu]
  rw [hq] at ho
  have q1 := p.cy.BH
  have q2 := p.cy.s2H
  have q3 := p.cy.HC
  have q4 := p.CQ
  refine ⟨?_, ⟨?_, ?_, ?_, ?_, p.CQ, fun k hk => ⟨(n6 k hk).1, (n6 k hk).2.1⟩, p.neR, ?_, ?_⟩, fun k hk => (n6 k hk).2.2⟩
  · exact (((Kept.alloc S w4 o).trans (K1.more Sx)).trans (K2.more fun k e => by rw [e]; exact SQ)).trans (K3.more fun k e => by rw [e]; exact SQ)
  · exact (((p.cy.below (Gw.alloc w4 o)).kept K1 (fun j hj => by have := (hxw j hj).1; omega)).kept K2 (fun j hj => by omega)).kept K3 (fun j hj => by omega)
  · exact (((p.blk.alloc o).grown hg (fun e => (p.ne Q e.symm).1 rfl)).set 2 v6).set 4 (.int .u64 (n + 1))
  · exact K3.ow (K2.ow (K1.ow (p.rr.alloc o) (fun k hk e => (p.ne k e).2 hk)) (fun k hk e => p.neR (e ▸ hk))) (fun k hk e => p.neR (e ▸ hk))
  · exact K3.ow (K2.ow ho (fun k hk e => (n6 k hk).1 e)) (fun k hk e => (n6 k hk).1 e)
  · rintro k (h | h)
    · have := p.own k h; omega
    · have := ho.lt k h; omega
  · rintro k (h | h | h | h | h | h | h | h | h | h)
    · exact .inl (p.inc k (by simp [h]))
    · exact .inl (p.inc k (by simp [h]))
    · exact .inl (p.inc k (by simp [h]))
    · exact .inl (p.inc k (by simp [h]))
    · exact .inl (p.inc k (by simp [h]))
    · exact .inl (p.inc k (by simp [h]))
    · exact .inl (p.inc k (by simp [h]))
    · exact .inl (p.inc k (by simp [h]))
    · exact .inl (p.inc k (by simp [h]))
    · exact .inr h
theorem once_root (w : World) (p : CoAt w B S Q f roots xw s n false) (hL : LenC s.c) (hO : OkC l f.b f.t s.c) (hrl : roots.length ≤ 100000) (hq : s.qs.length < roots.length) (y : Int) (hy : roots[s.qs.length] = y) (hyp : y = (rootP y : Int) - 1) (hyk : rootP y = 0 ∨ (1 ≤ rootP y ∧ rootP y - 1 ∈ l)) (hn0 : 0 ≤ n) (hn1 : n < 9223372036854775807) :
    Calls Try.prog 42 #[.pointer (some ⟨Q, 0, none⟩)] w (OnceP w B S Q f roots xw s n ((takeP s.c (rootP y)).map fun r => ⟨r.2, s.qs ++ [r.1], s.sc⟩)) := by
  obtain ⟨A, c, A2, c2, e1, e2⟩ := p.form
  have hk := p.blk
  rw [e1, e2] at hk
  obtain ⟨k0, k1, k2, k3, k4, k5⟩ := hk.six
  have hrd := p.rr
  rw [e2] at hrd
  obtain ⟨ad, rfl, hlt, hcr⟩ := hrd.rd s.qs.length hq
  rw [hy] at hcr
  have hlt : (ad.add s.qs.length).block < w.heap.size := by rw [add_block]; exact hlt
  have hbC : f.C < (ad.add s.qs.length).block := by
    have hf := hrd.form
    rw [add_block]
    rcases hrd.2 with ⟨e, _⟩ | ⟨g, cap, cur, e, hB, _⟩
    · cases e
    · injection e with e3
      injection e3 with e4
      rw [e4]; exact hB
  obtain ⟨cc1, cc2⟩ := p.cys
  have hQ := p.blk.lt
  have hrn : ¬ CyS f.s2 f.v1 f.v2 (ad.add s.qs.length).block := fun h => by have := (cc1 _ h).2; omega
  have HTk := Lib.hid (fun W (hb : Below w.heap.size w W) => takeP_c W (p.cy.below hb) hL hO (rootP y) hyk)
  rw [← hyp] at HTk
  have HP := Lib.hid p
  obtain ⟨i, hi⟩ : ∃ i, i = s.qs.length := ⟨_, rfl⟩
  obtain ⟨N, hN⟩ : ∃ N, N = roots.length := ⟨_, rfl⟩
  obtain ⟨C, hC⟩ : ∃ C, C = f.C := ⟨_, rfl⟩
  have HI := Lib.hid (And.intro hi (And.intro hN (And.intro hC (And.intro e1 e2))))
  rw [← hi] at hcr hlt hrn hq
  rw [← hN] at hq
  rw [← hi] at k2
  rw [← hN] at k1
  rw [← hC] at k0
  have hp : Hid (∀ W, Below w.heap.size w W → Calls Try.prog 51 #[.pointer (some ⟨C, 0, none⟩), .int .i64 y] W (TakeR W B f.H1 f.H2 f.C f.s1 f.g1 f.v1 f.s2 f.g2 f.v2 f.b f.t f.e s.c (takeP s.c (rootP y)))) := by rw [hC]; exact HTk
  obtain ⟨G, hG⟩ : ∃ G, G = CyS f.s2 f.v1 f.v2 := ⟨_, rfl⟩
  rw [← hG] at hrn cc2
  have HGe := Lib.hid hG
  have t1 : (i : Int) < (N : Int) := by omega
  have t2 : (N : Int) ≤ 100000 := by omega
  have t0 : (0 : Int) ≤ (i : Int) := by omega
  clear hk hrd hL hO hy hyk hyp hi hN hC hbC cc1 HTk e1 e2 p hrl hG
  cases hr : takeP s.c (rootP y) with
  | none =>
    rw [hr] at hp
    have HA : Hid (∀ W, Below w.heap.size w W → Calls Try.prog 51 #[.pointer (some ⟨C, 0, none⟩), .int .i64 y] W (fun e w2 => ∃ v, e = .returned v ∧ Kept G W w2 ∧ AndV (.tuple #[.int .i64 0, .int .i64 6]) (fun z => CyAt z B f.H1 f.H2 f.C f.s1 f.g1 f.v1 f.s2 f.g2 f.v2 f.b f.t f.e s.c) v w2)) := Lib.hid fun W hW => (hp.out W hW).mono fun r w2 h => ⟨_, h.1, by rw [HGe.out]; exact h.2.2, rfl, h.2.1⟩
    clear hp hr
    go_enter Try.func42, Try.ntmps42
    go_wp2_with fail
    refine oc3 _ _ _ Q C i N c2 ad (some ad) G y 0 6 _ hQ cc2 rfl hlt hrn k0 k1 t0 t1 hcr (fun _ _ h g => h.below g) HA rfl ?_ ?_ ?_
    · rfl
    · rfl
    intro vals w4 hG h4 h5 hcall
    unfold IsV at h4 h5
    simp only [putO, Act.put, List.setIfInBounds_toArray, List.set_cons_zero, List.set_cons_succ, h4, h5]
    have HE := Lib.hid (And.intro hcall.2 hG)
    clear hG h4 h5 hcall k0 k1 k2 k3 k4 k5 hcr
    go_wp2_with fail
    go_ret
    have h1 := HE.out.2
    rw [HGe.out] at h1
    exact ⟨rfl, h1.more fun k hk => (HP.out.cys.1 k hk).1, _, HP.out.toCy h1 HE.out.1⟩
  | some z =>
    obtain ⟨q, d⟩ := z
    rw [hr] at hp
    obtain ⟨u, hu⟩ : ∃ u, u = (q : Int) - 1 := ⟨_, rfl⟩
    have HA : Hid (∀ W, Below w.heap.size w W → Calls Try.prog 51 #[.pointer (some ⟨C, 0, none⟩), .int .i64 y] W (fun e w2 => ∃ v, e = .returned v ∧ Kept G W w2 ∧ AndV (.tuple #[.int .i64 u, .int .i64 0]) (fun z => CyAt z B f.H1 f.H2 f.C f.s1 f.g1 f.v1 f.s2 f.g2 f.v2 f.b f.t f.e d) v w2)) := Lib.hid fun W hW => (hp.out W hW).mono fun r w2 h => ⟨_, h.1, by rw [HGe.out]; exact h.2.2, by rw [hu], h.2.1⟩
    have HU := Lib.hid hu
    clear hp hr hu
    go_enter Try.func42, Try.ntmps42
    go_wp2_with fail
    refine oc3 _ _ _ Q C i N c2 ad (some ad) G y u 0 _ hQ cc2 rfl hlt hrn k0 k1 t0 t1 hcr (fun _ _ h g => h.below g) HA rfl ?_ ?_ ?_
    · rfl
    · rfl
    intro vals w4 hG h4 h5 hcall
    unfold IsV at h4 h5
    simp only [putO, Act.put, List.setIfInBounds_toArray, List.set_cons_zero, List.set_cons_succ, h4, h5]
    rw [HGe.out] at hG
    have p4 := HP.out.toCy hG hcall.2
    have h4k := p4.blk
    rw [HI.out.2.2.2.1, HI.out.2.2.2.2, ← HI.out.2.2.1, ← HI.out.1, ← HI.out.2.1] at h4k
    have ho4 := p4.ww
    rw [HI.out.2.2.2.1, ← HI.out.1] at ho4
    obtain ⟨g0, g1, g2, g3, g4, g5⟩ := h4k.six
    have hQ4 := h4k.lt
    have hQne := p4.ne
    rw [HI.out.2.2.2.1, ← HI.out.1] at hQne
    have hbase : f.C + 1 ≤ w4.heap.size := by have := p4.CQ; have := p4.blk.lt; omega
    have HL := Lib.hid (show (backZ s.qs).length + 1 ≤ 4294967296 from by simp [backZ, ← HI.out.1]; omega)
    have HE := Lib.hid (And.intro hG (And.intro p4 (And.intro ho4 (And.intro hQne (And.intro hbase h4k)))))
    clear hG h4 h5 hcall k0 k1 k2 k3 k4 k5 hcr p4 h4k ho4 hQne hbase
    go_wp2_with (at_builtin; refine wp_app oneI zV_one rfl (.tmp 42) (.tmp 44) rfl (f.C + 1) _ (backZ s.qs) rfl (HE.out.2.2.1.alloc _) (some ⟨w4.heap.size, 0, none⟩) 1 1 [u] rfl rfl (w4.heap.size + 1) (rd1_new rfl) HL.out (by decide) (by have := HE.out.2.2.2.2.1; simp; omega) ?_; intro v6 w6 ho6 hb6 (hg6 : World.grownBy (w4.alloc (.cells #[.int .i64 u] 3)) w6 (Value.slice A i c).ownBlock) (hv6 : v6.ownBlock = (Value.slice A i c).ownBlock ∨ v6.ownBlock = some (w4.alloc (.cells #[.int .i64 u] 3)).heap.size); obtain ⟨A6, n6, c6, rfl⟩ := ow_slc ho6; have hk6 := (HE.out.2.2.2.2.2.alloc (.cells #[.int .i64 u] 3)).grown hg6 (fun e => (HE.out.2.2.2.1 Q e.symm).1 rfl); have H6 := Lib.hid (And.intro ho6 (And.intro hg6 (And.intro hv6 hk6))); obtain ⟨j0, j1, j2, j3, j4, j5⟩ := hk6.six; have jf := hk6.free 2; have jf4 := hk6.free 4; have hQ6 := hk6.lt; clear ho6 hb6 hg6 hv6 hk6 g0 g1 g2 g3 g4 g5)
    go_ret
    have hg6 := H6.out.2.1
    have hv6 := H6.out.2.2.1
    have e0 : Value.slice A i c = xw := by rw [HI.out.2.2.2.1, HI.out.1]
    rw [e0] at hg6 hv6
    obtain ⟨x1, x2, x3⟩ := HE.out.2.1.push H6.out.1 hg6 hv6 HU.out
    have h1 := HE.out.1.size
    exact ⟨rfl, (HE.out.1.more fun k hk => (HP.out.cys.1 k hk).1).trans x1, _, _, x2, fun k hk => hk.elim .inl (fun h => (x3 k h).imp id (fun h => Nat.le_trans h1 h))⟩
end
end Go.Proofs.Ytbanbpphadgoiaa
/- A collector scans the next object; Done. Conditions: lengths. -/
namespace Go.Proofs.Ytbanbpphadgoiaa
set_option linter.unusedVariables false
set_option linter.unusedSimpArgs false
open Go.RowKit Go.Maps
set_option maxHeartbeats 1000000
set_option maxRecDepth 100000
theorem dn_a (Q : Exit → Act → World → Prop) (a0 : Act) (w : World) (D i N c c2 : Nat) (A A2 : Option Addr) (hQ : D < w.heap.size) (d1 : w.cell? ⟨D, 1, none⟩ = some (.slice A2 N c2)) (d2 : w.cell? ⟨D, 2, none⟩ = some (.slice A i c)) (d5 : w.cell? ⟨D, 5, none⟩ = some (.bool false)) (hne : ¬ (i : Int) = (N : Int)) (hsz : a0.tmps.size = 30) (sl0 : a0.tmps.getD 0 undef = .pointer (some ⟨D, 0, none⟩))
    (fin : ∀ (vals : Nat → Value) (w1 : World), Below w.heap.size w w1 → (IsV (.bool false)) (vals 27) w1 → Q .normal (putD vals [3, 4, 5, 6, 7, 8, 9, 10, 11, 12, 13, 14, 15, 16, 17, 18, 19, 20, 21, 22, 23, 24, 25, 26, 27, 28, 29, 2] 0 a0) w1) :
    (Code.region 1 (regIn Try.f19 1) true).wp Try.prog Q a0 w := by
  refine region_by (G := fun w w1 => Below w.heap.size w w1) [IsV (.pointer (some ⟨D, 0, none⟩)),
    IsV (.pointer (some ⟨D, 0, none⟩)),
    IsV (.pointer (some ⟨D, 5, none⟩)),
    IsV (.bool false),
    IsV (.bool true),
    IsV (.bool true),
    IsV (.pointer (some ⟨D, 0, none⟩)),
    IsV (.pointer (some ⟨D, 0, none⟩)),
    IsV (.pointer (some ⟨D, 2, none⟩)),
    IsV (.slice A i c),
    IsV (.int .i64 (i : Int)),
    IsV (.pointer (some ⟨D, 0, none⟩)),
    IsV (.pointer (some ⟨D, 0, none⟩)),
    IsV (.pointer (some ⟨D, 1, none⟩)),
    IsV (.slice A2 N c2),
    IsV (.int .i64 (N : Int)),
    IsV (.bool false),
    IsV (.bool false),
    IsV (.bool false),
    IsV undef,
    IsV undef,
    IsV undef,
    IsV undef,
    IsV undef,
    IsV undef,
    IsV undef,
    IsV (.bool false),
    IsV (.bool false)]
    [3, 4, 5, 6, 7, 8, 9, 10, 11, 12, 13, 14, 15, 16, 17, 18, 19, 20, 21, 22, 23, 24, 25, 26, 27, 28, 29, 2] (by kernel_rfl) (Gw.drew _) Gw.trans (by rw [hsz]; kernel_rfl) (by kernel_rfl) ?_ ?_ ?_
  · intro f hf
    simp only [List.mem_cons, List.not_mem_nil, or_false] at hf
    rcases hf with rfl | rfl | rfl | rfl | rfl | rfl | rfl | rfl | rfl | rfl | rfl | rfl | rfl | rfl | rfl | rfl | rfl | rfl | rfl | rfl | rfl | rfl | rfl | rfl | rfl | rfl | rfl | rfl <;> intro v a b h g <;> first | exact IsV.mono h
  · refine ⟨?_, ?_, ?_, ?_, ?_, ?_, ?_, ?_, ?_, ?_, ?_, ?_, ?_, ?_, ?_, ?_, ?_, ?_, ?_, ?_, ?_, ?_, ?_, ?_, ?_, ?_, ?_, ?_, trivial⟩
    · exact owes_mv 0 (by kernel_rfl) (by kernel_rfl) (by kernel_rfl) sl0 (fun _ => rfl)
    · refine owes_v (Go.Op.nilCheck (Go.Operand.tmp 3)) 0 [0] (by kernel_rfl) (by kernel_rfl) (by kernel_rfl) rfl fun vals w1 ρ hG hF hρ hcst hfun => ?_
      have e3 : ρ (.tmp 3) = .pointer (some ⟨D, 0, none⟩) := ((hρ 3).trans (slotJ [0] (by rw [hsz]; decide) (by kernel_rfl))).trans (hF 0 (by decide))
      clear hρ hF hcst hfun sl0 fin
      exact opv_val (by go_simp <;> rfl) ⟨gw_self _, rfl⟩
    · refine owes_v (Go.Op.fieldAddr 84 (Go.Operand.tmp 4) 5) 0 [1] (by kernel_rfl) (by kernel_rfl) (by kernel_rfl) rfl fun vals w1 ρ hG hF hρ hcst hfun => ?_
      have e4 : ρ (.tmp 4) = .pointer (some ⟨D, 0, none⟩) := ((hρ 4).trans (slotJ [1] (by rw [hsz]; decide) (by kernel_rfl))).trans (hF 1 (by decide))
      clear hρ hF hcst hfun sl0 fin
      exact opv_val (by go_simp <;> rfl) ⟨gw_self _, rfl⟩
    · refine owes_v (Go.Op.load 4 (Go.Operand.tmp 5)) 4 [2] (by kernel_rfl) (by kernel_rfl) (by kernel_rfl) rfl fun vals w1 ρ hG hF hρ hcst hfun => ?_
      have e5 : ρ (.tmp 5) = .pointer (some ⟨D, 5, none⟩) := ((hρ 5).trans (slotJ [2] (by rw [hsz]; decide) (by kernel_rfl))).trans (hF 2 (by decide))
      have k := (hG.cell (p := ⟨D, 5, none⟩) hQ).trans d5
      clear hρ hF hcst hfun sl0 fin
      exact opv_val (by go_simp <;> rfl) ⟨gw_self _, rfl⟩
    · refine owes_v (Go.Op.unOp Go.UnOp.not 4 (Go.Operand.tmp 6)) 4 [3] (by kernel_rfl) (by kernel_rfl) (by kernel_rfl) rfl fun vals w1 ρ hG hF hρ hcst hfun => ?_
      have e6 : ρ (.tmp 6) = .bool false := ((hρ 6).trans (slotJ [3] (by rw [hsz]; decide) (by kernel_rfl))).trans (hF 3 (by decide))
      clear hρ hF hcst hfun sl0 fin
      exact opv_val (by go_simp <;> rfl) ⟨gw_self _, rfl⟩
    · exact owes_mvj 4 7 (by kernel_rfl) (by kernel_rfl) (by kernel_rfl) (by kernel_rfl) (by rw [hsz]; decide) (fun v w h => h)
    · refine owes_vt 5 true (Go.Op.move (Go.Operand.tmp 0)) 31 [] (by kernel_rfl) (by kernel_rfl) (by kernel_rfl) (fun _ _ h => h) (by rw [hsz]; kernel_rfl) (by kernel_rfl) rfl fun vals w1 ρ hG hF hρ hcst hfun => ?_
      have e0 : ρ (.tmp 0) = .pointer (some ⟨D, 0, none⟩) := ((hρ 0).trans (slotO [] (by kernel_rfl))).trans sl0
      clear hρ hF hcst hfun sl0 fin
      exact opv_val (by go_simp <;> rfl) ⟨gw_self _, rfl⟩
    · refine owes_vt 5 true (Go.Op.nilCheck (Go.Operand.tmp 9)) 0 [6] (by kernel_rfl) (by kernel_rfl) (by kernel_rfl) (fun _ _ h => h) (by rw [hsz]; kernel_rfl) (by kernel_rfl) rfl fun vals w1 ρ hG hF hρ hcst hfun => ?_
      have e9 : ρ (.tmp 9) = .pointer (some ⟨D, 0, none⟩) := ((hρ 9).trans (slotJ [6] (by rw [hsz]; decide) (by kernel_rfl))).trans (hF 6 (by decide))
      clear hρ hF hcst hfun sl0 fin
      exact opv_val (by go_simp <;> rfl) ⟨gw_self _, rfl⟩
    · refine owes_vt 5 true (Go.Op.fieldAddr 84 (Go.Operand.tmp 10) 2) 0 [7] (by kernel_rfl) (by kernel_rfl) (by kernel_rfl) (fun _ _ h => h) (by rw [hsz]; kernel_rfl) (by kernel_rfl) rfl fun vals w1 ρ hG hF hρ hcst hfun => ?_
      have e10 : ρ (.tmp 10) = .pointer (some ⟨D, 0, none⟩) := ((hρ 10).trans (slotJ [7] (by rw [hsz]; decide) (by kernel_rfl))).trans (hF 7 (by decide))
      clear hρ hF hcst hfun sl0 fin
      exact opv_val (by go_simp <;> rfl) ⟨gw_self _, rfl⟩
    · refine owes_vt 5 true (Go.Op.load 23 (Go.Operand.tmp 11)) 23 [8] (by kernel_rfl) (by kernel_rfl) (by kernel_rfl) (fun _ _ h => h) (by rw [hsz]; kernel_rfl) (by kernel_rfl) rfl fun vals w1 ρ hG hF hρ hcst hfun => ?_
      have e11 : ρ (.tmp 11) = .pointer (some ⟨D, 2, none⟩) := ((hρ 11).trans (slotJ [8] (by rw [hsz]; decide) (by kernel_rfl))).trans (hF 8 (by decide))
      have k := (hG.cell (p := ⟨D, 2, none⟩) hQ).trans d2
      clear hρ hF hcst hfun sl0 fin
      exact opv_val (by go_simp <;> rfl) ⟨gw_self _, rfl⟩
    · refine owes_vt 5 true (Go.Op.call { callee := Go.Callee.builtin Go.Builtin.len, args := #[Go.Operand.tmp 12], argTypes := #[23] }) 3 [9] (by kernel_rfl) (by kernel_rfl) (by kernel_rfl) (fun _ _ h => h) (by rw [hsz]; kernel_rfl) (by kernel_rfl) rfl fun vals w1 ρ hG hF hρ hcst hfun => ?_
      have e12 : ρ (.tmp 12) = .slice A i c := ((hρ 12).trans (slotJ [9] (by rw [hsz]; decide) (by kernel_rfl))).trans (hF 9 (by decide))
      clear hρ hF hcst hfun sl0 fin
      exact opv_val (by go_simp <;> rfl) ⟨gw_self _, rfl⟩
    · refine owes_vt 5 true (Go.Op.move (Go.Operand.tmp 0)) 31 [] (by kernel_rfl) (by kernel_rfl) (by kernel_rfl) (fun _ _ h => h) (by rw [hsz]; kernel_rfl) (by kernel_rfl) rfl fun vals w1 ρ hG hF hρ hcst hfun => ?_
      have e0 : ρ (.tmp 0) = .pointer (some ⟨D, 0, none⟩) := ((hρ 0).trans (slotO [] (by kernel_rfl))).trans sl0
      clear hρ hF hcst hfun sl0 fin
      exact opv_val (by go_simp <;> rfl) ⟨gw_self _, rfl⟩
    · refine owes_vt 5 true (Go.Op.nilCheck (Go.Operand.tmp 14)) 0 [11] (by kernel_rfl) (by kernel_rfl) (by kernel_rfl) (fun _ _ h => h) (by rw [hsz]; kernel_rfl) (by kernel_rfl) rfl fun vals w1 ρ hG hF hρ hcst hfun => ?_
      have e14 : ρ (.tmp 14) = .pointer (some ⟨D, 0, none⟩) := ((hρ 14).trans (slotJ [11] (by rw [hsz]; decide) (by kernel_rfl))).trans (hF 11 (by decide))
      clear hρ hF hcst hfun sl0 fin
      exact opv_val (by go_simp <;> rfl) ⟨gw_self _, rfl⟩
    · refine owes_vt 5 true (Go.Op.fieldAddr 84 (Go.Operand.tmp 15) 1) 0 [12] (by kernel_rfl) (by kernel_rfl) (by kernel_rfl) (fun _ _ h => h) (by rw [hsz]; kernel_rfl) (by kernel_rfl) rfl fun vals w1 ρ hG hF hρ hcst hfun => ?_
      have e15 : ρ (.tmp 15) = .pointer (some ⟨D, 0, none⟩) := ((hρ 15).trans (slotJ [12] (by rw [hsz]; decide) (by kernel_rfl))).trans (hF 12 (by decide))
      clear hρ hF hcst hfun sl0 fin
      exact opv_val (by go_simp <;> rfl) ⟨gw_self _, rfl⟩
    · refine owes_vt 5 true (Go.Op.load 23 (Go.Operand.tmp 16)) 23 [13] (by kernel_rfl) (by kernel_rfl) (by kernel_rfl) (fun _ _ h => h) (by rw [hsz]; kernel_rfl) (by kernel_rfl) rfl fun vals w1 ρ hG hF hρ hcst hfun => ?_
      have e16 : ρ (.tmp 16) = .pointer (some ⟨D, 1, none⟩) := ((hρ 16).trans (slotJ [13] (by rw [hsz]; decide) (by kernel_rfl))).trans (hF 13 (by decide))
      have k := (hG.cell (p := ⟨D, 1, none⟩) hQ).trans d1
      clear hρ hF hcst hfun sl0 fin
      exact opv_val (by go_simp <;> rfl) ⟨gw_self _, rfl⟩
    · refine owes_vt 5 true (Go.Op.call { callee := Go.Callee.builtin Go.Builtin.len, args := #[Go.Operand.tmp 17], argTypes := #[23] }) 3 [14] (by kernel_rfl) (by kernel_rfl) (by kernel_rfl) (fun _ _ h => h) (by rw [hsz]; kernel_rfl) (by kernel_rfl) rfl fun vals w1 ρ hG hF hρ hcst hfun => ?_
      have e17 : ρ (.tmp 17) = .slice A2 N c2 := ((hρ 17).trans (slotJ [14] (by rw [hsz]; decide) (by kernel_rfl))).trans (hF 14 (by decide))
      clear hρ hF hcst hfun sl0 fin
      exact opv_val (by go_simp <;> rfl) ⟨gw_self _, rfl⟩
    · refine owes_vt 5 true (Go.Op.binOp Go.BinOp.eql 3 (Go.Operand.tmp 13) (Go.Operand.tmp 18) 3) 4 [10, 15] (by kernel_rfl) (by kernel_rfl) (by kernel_rfl) (fun _ _ h => h) (by rw [hsz]; kernel_rfl) (by kernel_rfl) rfl fun vals w1 ρ hG hF hρ hcst hfun => ?_
      have e13 : ρ (.tmp 13) = .int .i64 (i : Int) := ((hρ 13).trans (slotJ [10, 15] (by rw [hsz]; decide) (by kernel_rfl))).trans (hF 10 (by decide))
      have e18 : ρ (.tmp 18) = .int .i64 (N : Int) := ((hρ 18).trans (slotJ [10, 15] (by rw [hsz]; decide) (by kernel_rfl))).trans (hF 15 (by decide))
      clear hρ hF hcst hfun sl0 fin
      exact opv_val (by go_simp <;> rfl) ⟨gw_self _, rfl⟩
    · refine owes_v (Go.Op.pick (Go.Operand.tmp 8) (Go.Operand.tmp 19) (Go.Operand.const (Go.Value.bool false))) 4 [5, 16] (by kernel_rfl) (by kernel_rfl) (by kernel_rfl) rfl fun vals w1 ρ hG hF hρ hcst hfun => ?_
      have e8 : ρ (.tmp 8) = .bool true := ((hρ 8).trans (slotJ [5, 16] (by rw [hsz]; decide) (by kernel_rfl))).trans (hF 5 (by decide))
      have e19 : ρ (.tmp 19) = .bool false := ((hρ 19).trans (slotJ [5, 16] (by rw [hsz]; decide) (by kernel_rfl))).trans (hF 16 (by decide))
      clear hρ hF hfun sl0 fin
      exact opv_val (by go_simp <;> rfl) ⟨gw_self _, rfl⟩
    · exact owes_mvj 17 20 (by kernel_rfl) (by kernel_rfl) (by kernel_rfl) (by kernel_rfl) (by rw [hsz]; decide) (fun v w h => h)
    · exact owes_no 18 false true (by decide) (by kernel_rfl) (by kernel_rfl) (fun _ _ h => h) (by rw [hsz]; kernel_rfl) (fun _ => rfl)
    · exact owes_no 18 false true (by decide) (by kernel_rfl) (by kernel_rfl) (fun _ _ h => h) (by rw [hsz]; kernel_rfl) (fun _ => rfl)
    · exact owes_no 18 false true (by decide) (by kernel_rfl) (by kernel_rfl) (fun _ _ h => h) (by rw [hsz]; kernel_rfl) (fun _ => rfl)
    · exact owes_no 18 false true (by decide) (by kernel_rfl) (by kernel_rfl) (fun _ _ h => h) (by rw [hsz]; kernel_rfl) (fun _ => rfl)
    · exact owes_no 18 false true (by decide) (by kernel_rfl) (by kernel_rfl) (fun _ _ h => h) (by rw [hsz]; kernel_rfl) (fun _ => rfl)
    · exact owes_no 18 false true (by decide) (by kernel_rfl) (by kernel_rfl) (fun _ _ h => h) (by rw [hsz]; kernel_rfl) (fun _ => rfl)
    · exact owes_no 18 false true (by decide) (by kernel_rfl) (by kernel_rfl) (fun _ _ h => h) (by rw [hsz]; kernel_rfl) (fun _ => rfl)
    · refine owes_v (Go.Op.pick (Go.Operand.tmp 21) (Go.Operand.tmp 28) (Go.Operand.const (Go.Value.bool false))) 4 [18, 25] (by kernel_rfl) (by kernel_rfl) (by kernel_rfl) rfl fun vals w1 ρ hG hF hρ hcst hfun => ?_
      have e21 : ρ (.tmp 21) = .bool false := ((hρ 21).trans (slotJ [18, 25] (by rw [hsz]; decide) (by kernel_rfl))).trans (hF 18 (by decide))
      have e28 : ρ (.tmp 28) = undef := ((hρ 28).trans (slotJ [18, 25] (by rw [hsz]; decide) (by kernel_rfl))).trans (hF 25 (by decide))
      clear hρ hF hfun sl0 fin
      exact opv_val (by go_simp <;> rfl) ⟨gw_self _, rfl⟩
    · exact owes_mvj 26 29 (by kernel_rfl) (by kernel_rfl) (by kernel_rfl) (by kernel_rfl) (by rw [hsz]; decide) (fun v w h => h)
  · intro vals w1 hG hF
    exact fin vals w1 hG (hF 27 (by decide +kernel))
theorem dn_b (Q : Exit → Act → World → Prop) (a0 : Act) (w : World) (D i N c c2 : Nat) (A A2 : Option Addr) (z tp : Int) (bb : Bool) (hQ : D < w.heap.size) (d1 : w.cell? ⟨D, 1, none⟩ = some (.slice A2 N c2)) (d2 : w.cell? ⟨D, 2, none⟩ = some (.slice A i c)) (d3 : w.cell? ⟨D, 3, none⟩ = some (.int .i64 z)) (d5 : w.cell? ⟨D, 5, none⟩ = some (.bool false)) (hne : (i : Int) = (N : Int)) (hbb : bb = decide (z = tp)) (hp : Hid (∀ W, Below w.heap.size w W → Calls Try.prog 21 #[.pointer (some ⟨D, 0, none⟩)] W (RetP (.int .i64 tp) W))) (hsz : a0.tmps.size = 30) (sl0 : a0.tmps.getD 0 undef = .pointer (some ⟨D, 0, none⟩))
    (fin : ∀ (vals : Nat → Value) (w1 : World), Below w.heap.size w w1 → (IsV (.bool bb)) (vals 27) w1 → Q .normal (putD vals [3, 4, 5, 6, 7, 8, 9, 10, 11, 12, 13, 14, 15, 16, 17, 18, 19, 20, 21, 22, 23, 24, 25, 26, 27, 28, 29, 2] 0 a0) w1) :
    (Code.region 1 (regIn Try.f19 1) true).wp Try.prog Q a0 w := by
  refine region_by (G := fun w w1 => Below w.heap.size w w1) [IsV (.pointer (some ⟨D, 0, none⟩)),
    IsV (.pointer (some ⟨D, 0, none⟩)),
    IsV (.pointer (some ⟨D, 5, none⟩)),
    IsV (.bool false),
    IsV (.bool true),
    IsV (.bool true),
    IsV (.pointer (some ⟨D, 0, none⟩)),
    IsV (.pointer (some ⟨D, 0, none⟩)),
    IsV (.pointer (some ⟨D, 2, none⟩)),
    IsV (.slice A i c),
    IsV (.int .i64 (i : Int)),
    IsV (.pointer (some ⟨D, 0, none⟩)),
    IsV (.pointer (some ⟨D, 0, none⟩)),
    IsV (.pointer (some ⟨D, 1, none⟩)),
    IsV (.slice A2 N c2),
    IsV (.int .i64 (N : Int)),
    IsV (.bool true),
    IsV (.bool true),
    IsV (.bool true),
    IsV (.pointer (some ⟨D, 0, none⟩)),
    IsV (.pointer (some ⟨D, 0, none⟩)),
    IsV (.pointer (some ⟨D, 3, none⟩)),
    IsV (.int .i64 z),
    IsV (.pointer (some ⟨D, 0, none⟩)),
    IsV (.int .i64 tp),
    IsV (.bool bb),
    IsV (.bool bb),
    IsV (.bool bb)]
    [3, 4, 5, 6, 7, 8, 9, 10, 11, 12, 13, 14, 15, 16, 17, 18, 19, 20, 21, 22, 23, 24, 25, 26, 27, 28, 29, 2] (by kernel_rfl) (Gw.drew _) Gw.trans (by rw [hsz]; kernel_rfl) (by kernel_rfl) ?_ ?_ ?_
  · intro f hf
    simp only [List.mem_cons, List.not_mem_nil, or_false] at hf
    rcases hf with rfl | rfl | rfl | rfl | rfl | rfl | rfl | rfl | rfl | rfl | rfl | rfl | rfl | rfl | rfl | rfl | rfl | rfl | rfl | rfl | rfl | rfl | rfl | rfl | rfl | rfl | rfl | rfl <;> intro v a b h g <;> first | exact IsV.mono h
  · refine ⟨?_, ?_, ?_, ?_, ?_, ?_, ?_, ?_, ?_, ?_, ?_, ?_, ?_, ?_, ?_, ?_, ?_, ?_, ?_, ?_, ?_, ?_, ?_, ?_, ?_, ?_, ?_, ?_, trivial⟩
    · exact owes_mv 0 (by kernel_rfl) (by kernel_rfl) (by kernel_rfl) sl0 (fun _ => rfl)
    · refine owes_v (Go.Op.nilCheck (Go.Operand.tmp 3)) 0 [0] (by kernel_rfl) (by kernel_rfl) (by kernel_rfl) rfl fun vals w1 ρ hG hF hρ hcst hfun => ?_
      have e3 : ρ (.tmp 3) = .pointer (some ⟨D, 0, none⟩) := ((hρ 3).trans (slotJ [0] (by rw [hsz]; decide) (by kernel_rfl))).trans (hF 0 (by decide))
      clear hρ hF hcst hfun sl0 fin
      exact opv_val (by go_simp <;> rfl) ⟨gw_self _, rfl⟩
    · refine owes_v (Go.Op.fieldAddr 84 (Go.Operand.tmp 4) 5) 0 [1] (by kernel_rfl) (by kernel_rfl) (by kernel_rfl) rfl fun vals w1 ρ hG hF hρ hcst hfun => ?_
      have e4 : ρ (.tmp 4) = .pointer (some ⟨D, 0, none⟩) := ((hρ 4).trans (slotJ [1] (by rw [hsz]; decide) (by kernel_rfl))).trans (hF 1 (by decide))
      clear hρ hF hcst hfun sl0 fin
      exact opv_val (by go_simp <;> rfl) ⟨gw_self _, rfl⟩
    · refine owes_v (Go.Op.load 4 (Go.Operand.tmp 5)) 4 [2] (by kernel_rfl) (by kernel_rfl) (by kernel_rfl) rfl fun vals w1 ρ hG hF hρ hcst hfun => ?_
      have e5 : ρ (.tmp 5) = .pointer (some ⟨D, 5, none⟩) := ((hρ 5).trans (slotJ [2] (by rw [hsz]; decide) (by kernel_rfl))).trans (hF 2 (by decide))
      have k := (hG.cell (p := ⟨D, 5, none⟩) hQ).trans d5
      clear hρ hF hcst hfun sl0 fin
      exact opv_val (by go_simp <;> rfl) ⟨gw_self _, rfl⟩
    · refine owes_v (Go.Op.unOp Go.UnOp.not 4 (Go.Operand.tmp 6)) 4 [3] (by kernel_rfl) (by kernel_rfl) (by kernel_rfl) rfl fun vals w1 ρ hG hF hρ hcst hfun => ?_
      have e6 : ρ (.tmp 6) = .bool false := ((hρ 6).trans (slotJ [3] (by rw [hsz]; decide) (by kernel_rfl))).trans (hF 3 (by decide))
      clear hρ hF hcst hfun sl0 fin
      exact opv_val (by go_simp <;> rfl) ⟨gw_self _, rfl⟩
    · exact owes_mvj 4 7 (by kernel_rfl) (by kernel_rfl) (by kernel_rfl) (by kernel_rfl) (by rw [hsz]; decide) (fun v w h => h)
    · refine owes_vt 5 true (Go.Op.move (Go.Operand.tmp 0)) 31 [] (by kernel_rfl) (by kernel_rfl) (by kernel_rfl) (fun _ _ h => h) (by rw [hsz]; kernel_rfl) (by kernel_rfl) rfl fun vals w1 ρ hG hF hρ hcst hfun => ?_
      have e0 : ρ (.tmp 0) = .pointer (some ⟨D, 0, none⟩) := ((hρ 0).trans (slotO [] (by kernel_rfl))).trans sl0
      clear hρ hF hcst hfun sl0 fin
      exact opv_val (by go_simp <;> rfl) ⟨gw_self _, rfl⟩
    · refine owes_vt 5 true (Go.Op.nilCheck (Go.Operand.tmp 9)) 0 [6] (by kernel_rfl) (by kernel_rfl) (by kernel_rfl) (fun _ _ h => h) (by rw [hsz]; kernel_rfl) (by kernel_rfl) rfl fun vals w1 ρ hG hF hρ hcst hfun => ?_
      have e9 : ρ (.tmp 9) = .pointer (some ⟨D, 0, none⟩) := ((hρ 9).trans (slotJ [6] (by rw [hsz]; decide) (by kernel_rfl))).trans (hF 6 (by decide))
      clear hρ hF hcst hfun sl0 fin
      exact opv_val (by go_simp <;> rfl) ⟨gw_self _, rfl⟩
    · refine owes_vt 5 true (Go.Op.fieldAddr 84 (Go.Operand.tmp 10) 2) 0 [7] (by kernel_rfl) (by kernel_rfl) (by kernel_rfl) (fun _ _ h => h) (by rw [hsz]; kernel_rfl) (by kernel_rfl) rfl fun vals w1 ρ hG hF hρ hcst hfun => ?_
      have e10 : ρ (.tmp 10) = .pointer (some ⟨D, 0, none⟩) := ((hρ 10).trans (slotJ [7] (by rw [hsz]; decide) (by kernel_rfl))).trans (hF 7 (by decide))
      clear hρ hF hcst hfun sl0 fin
      exact opv_val (by go_simp <;> rfl) ⟨gw_self _, rfl⟩
    · refine owes_vt 5 true (Go.Op.load 23 (Go.Operand.tmp 11)) 23 [8] (by kernel_rfl) (by kernel_rfl) (by kernel_rfl) (fun _ _ h => h) (by rw [hsz]; kernel_rfl) (by kernel_rfl) rfl fun vals w1 ρ hG hF hρ hcst hfun => ?_
      have e11 : ρ (.tmp 11) = .pointer (some ⟨D, 2, none⟩) := ((hρ 11).trans (slotJ [8] (by rw [hsz]; decide) (by kernel_rfl))).trans (hF 8 (by decide))
      have k := (hG.cell (p := ⟨D, 2, none⟩) hQ).trans d2
      clear hρ hF hcst hfun sl0 fin
      exact opv_val (by go_simp <;> rfl) ⟨gw_self _, rfl⟩
    · refine owes_vt 5 true (Go.Op.call { callee := Go.Callee.builtin Go.Builtin.len, args := #[Go.Operand.tmp 12], argTypes := #[23] }) 3 [9] (by kernel_rfl) (by kernel_rfl) (by kernel_rfl) (fun _ _ h => h) (by rw [hsz]; kernel_rfl) (by kernel_rfl) rfl fun vals w1 ρ hG hF hρ hcst hfun => ?_
      have e12 : ρ (.tmp 12) = .slice A i c := ((hρ 12).trans (slotJ [9] (by rw [hsz]; decide) (by kernel_rfl))).trans (hF 9 (by decide))
      clear hρ hF hcst hfun sl0 fin
      exact opv_val (by go_simp <;> rfl) ⟨gw_self _, rfl⟩
    · refine owes_vt 5 true (Go.Op.move (Go.Operand.tmp 0)) 31 [] (by kernel_rfl) (by kernel_rfl) (by kernel_rfl) (fun _ _ h => h) (by rw [hsz]; kernel_rfl) (by kernel_rfl) rfl fun vals w1 ρ hG hF hρ hcst hfun => ?_
      have e0 : ρ (.tmp 0) = .pointer (some ⟨D, 0, none⟩) := ((hρ 0).trans (slotO [] (by kernel_rfl))).trans sl0
      clear hρ hF hcst hfun sl0 fin
      exact opv_val (by go_simp <;> rfl) ⟨gw_self _, rfl⟩
    · refine owes_vt 5 true (Go.Op.nilCheck (Go.Operand.tmp 14)) 0 [11] (by kernel_rfl) (by kernel_rfl) (by kernel_rfl) (fun _ _ h => h) (by rw [hsz]; kernel_rfl) (by kernel_rfl) rfl fun vals w1 ρ hG hF hρ hcst hfun => ?_
      have e14 : ρ (.tmp 14) = .pointer (some ⟨D, 0, none⟩) := ((hρ 14).trans (slotJ [11] (by rw [hsz]; decide) (by kernel_rfl))).trans (hF 11 (by decide))
      clear hρ hF hcst hfun sl0 fin
      exact opv_val (by go_simp <;> rfl) ⟨gw_self _, rfl⟩
    · refine owes_vt 5 true (Go.Op.fieldAddr 84 (Go.Operand.tmp 15) 1) 0 [12] (by kernel_rfl) (by kernel_rfl) (by kernel_rfl) (fun _ _ h => h) (by rw [hsz]; kernel_rfl) (by kernel_rfl) rfl fun vals w1 ρ hG hF hρ hcst hfun => ?_
      have e15 : ρ (.tmp 15) = .pointer (some ⟨D, 0, none⟩) := ((hρ 15).trans (slotJ [12] (by rw [hsz]; decide) (by kernel_rfl))).trans (hF 12 (by decide))
      clear hρ hF hcst hfun sl0 fin
      exact opv_val (by go_simp <;> rfl) ⟨gw_self _, rfl⟩
    · refine owes_vt 5 true (Go.Op.load 23 (Go.Operand.tmp 16)) 23 [13] (by kernel_rfl) (by kernel_rfl) (by kernel_rfl) (fun _ _ h => h) (by rw [hsz]; kernel_rfl) (by kernel_rfl) rfl fun vals w1 ρ hG hF hρ hcst hfun => ?_
      have e16 : ρ (.tmp 16) = .pointer (some ⟨D, 1, none⟩) := ((hρ 16).trans (slotJ [13] (by rw [hsz]; decide) (by kernel_rfl))).trans (hF 13 (by decide))
      have k := (hG.cell (p := ⟨D, 1, none⟩) hQ).trans d1
      clear hρ hF hcst hfun sl0 fin
      exact opv_val (by go_simp <;> rfl) ⟨gw_self _, rfl⟩
    · refine owes_vt 5 true (Go.Op.call { callee := Go.Callee.builtin Go.Builtin.len, args := #[Go.Operand.tmp 17], argTypes := #[23] }) 3 [14] (by kernel_rfl) (by kernel_rfl) (by kernel_rfl) (fun _ _ h => h) (by rw [hsz]; kernel_rfl) (by kernel_rfl) rfl fun vals w1 ρ hG hF hρ hcst hfun => ?_
      have e17 : ρ (.tmp 17) = .slice A2 N c2 := ((hρ 17).trans (slotJ [14] (by rw [hsz]; decide) (by kernel_rfl))).trans (hF 14 (by decide))
      clear hρ hF hcst hfun sl0 fin
      exact opv_val (by go_simp <;> rfl) ⟨gw_self _, rfl⟩
    · refine owes_vt 5 true (Go.Op.binOp Go.BinOp.eql 3 (Go.Operand.tmp 13) (Go.Operand.tmp 18) 3) 4 [10, 15] (by kernel_rfl) (by kernel_rfl) (by kernel_rfl) (fun _ _ h => h) (by rw [hsz]; kernel_rfl) (by kernel_rfl) rfl fun vals w1 ρ hG hF hρ hcst hfun => ?_
      have e13 : ρ (.tmp 13) = .int .i64 (i : Int) := ((hρ 13).trans (slotJ [10, 15] (by rw [hsz]; decide) (by kernel_rfl))).trans (hF 10 (by decide))
      have e18 : ρ (.tmp 18) = .int .i64 (N : Int) := ((hρ 18).trans (slotJ [10, 15] (by rw [hsz]; decide) (by kernel_rfl))).trans (hF 15 (by decide))
      clear hρ hF hcst hfun sl0 fin
      exact opv_val (by go_simp <;> rfl) ⟨gw_self _, rfl⟩
    · refine owes_v (Go.Op.pick (Go.Operand.tmp 8) (Go.Operand.tmp 19) (Go.Operand.const (Go.Value.bool false))) 4 [5, 16] (by kernel_rfl) (by kernel_rfl) (by kernel_rfl) rfl fun vals w1 ρ hG hF hρ hcst hfun => ?_
      have e8 : ρ (.tmp 8) = .bool true := ((hρ 8).trans (slotJ [5, 16] (by rw [hsz]; decide) (by kernel_rfl))).trans (hF 5 (by decide))
      have e19 : ρ (.tmp 19) = .bool true := ((hρ 19).trans (slotJ [5, 16] (by rw [hsz]; decide) (by kernel_rfl))).trans (hF 16 (by decide))
      clear hρ hF hfun sl0 fin
      exact opv_val (by go_simp <;> rfl) ⟨gw_self _, rfl⟩
    · exact owes_mvj 17 20 (by kernel_rfl) (by kernel_rfl) (by kernel_rfl) (by kernel_rfl) (by rw [hsz]; decide) (fun v w h => h)
    · refine owes_vt 18 true (Go.Op.move (Go.Operand.tmp 0)) 31 [] (by kernel_rfl) (by kernel_rfl) (by kernel_rfl) (fun _ _ h => h) (by rw [hsz]; kernel_rfl) (by kernel_rfl) rfl fun vals w1 ρ hG hF hρ hcst hfun => ?_
      have e0 : ρ (.tmp 0) = .pointer (some ⟨D, 0, none⟩) := ((hρ 0).trans (slotO [] (by kernel_rfl))).trans sl0
      clear hρ hF hcst hfun sl0 fin
      exact opv_val (by go_simp <;> rfl) ⟨gw_self _, rfl⟩
    · refine owes_vt 18 true (Go.Op.nilCheck (Go.Operand.tmp 22)) 0 [19] (by kernel_rfl) (by kernel_rfl) (by kernel_rfl) (fun _ _ h => h) (by rw [hsz]; kernel_rfl) (by kernel_rfl) rfl fun vals w1 ρ hG hF hρ hcst hfun => ?_
      have e22 : ρ (.tmp 22) = .pointer (some ⟨D, 0, none⟩) := ((hρ 22).trans (slotJ [19] (by rw [hsz]; decide) (by kernel_rfl))).trans (hF 19 (by decide))
      clear hρ hF hcst hfun sl0 fin
      exact opv_val (by go_simp <;> rfl) ⟨gw_self _, rfl⟩
    · refine owes_vt 18 true (Go.Op.fieldAddr 84 (Go.Operand.tmp 23) 3) 0 [20] (by kernel_rfl) (by kernel_rfl) (by kernel_rfl) (fun _ _ h => h) (by rw [hsz]; kernel_rfl) (by kernel_rfl) rfl fun vals w1 ρ hG hF hρ hcst hfun => ?_
      have e23 : ρ (.tmp 23) = .pointer (some ⟨D, 0, none⟩) := ((hρ 23).trans (slotJ [20] (by rw [hsz]; decide) (by kernel_rfl))).trans (hF 20 (by decide))
      clear hρ hF hcst hfun sl0 fin
      exact opv_val (by go_simp <;> rfl) ⟨gw_self _, rfl⟩
    · refine owes_vt 18 true (Go.Op.load 3 (Go.Operand.tmp 24)) 3 [21] (by kernel_rfl) (by kernel_rfl) (by kernel_rfl) (fun _ _ h => h) (by rw [hsz]; kernel_rfl) (by kernel_rfl) rfl fun vals w1 ρ hG hF hρ hcst hfun => ?_
      have e24 : ρ (.tmp 24) = .pointer (some ⟨D, 3, none⟩) := ((hρ 24).trans (slotJ [21] (by rw [hsz]; decide) (by kernel_rfl))).trans (hF 21 (by decide))
      have k := (hG.cell (p := ⟨D, 3, none⟩) hQ).trans d3
      clear hρ hF hcst hfun sl0 fin
      exact opv_val (by go_simp <;> rfl) ⟨gw_self _, rfl⟩
    · refine owes_vt 18 true (Go.Op.move (Go.Operand.tmp 0)) 31 [] (by kernel_rfl) (by kernel_rfl) (by kernel_rfl) (fun _ _ h => h) (by rw [hsz]; kernel_rfl) (by kernel_rfl) rfl fun vals w1 ρ hG hF hρ hcst hfun => ?_
      have e0 : ρ (.tmp 0) = .pointer (some ⟨D, 0, none⟩) := ((hρ 0).trans (slotO [] (by kernel_rfl))).trans sl0
      clear hρ hF hcst hfun sl0 fin
      exact opv_val (by go_simp <;> rfl) ⟨gw_self _, rfl⟩
    · refine owes_vt 18 true (Go.Op.call { callee := Go.Callee.value (Go.Operand.func 21), args := #[Go.Operand.tmp 26], argTypes := #[31] }) 3 [23] (by kernel_rfl) (by kernel_rfl) (by kernel_rfl) (fun _ _ h => h) (by rw [hsz]; kernel_rfl) (by kernel_rfl) rfl fun vals w1 ρ hG hF hρ hcst hfun => ?_
      have e26 : ρ (.tmp 26) = .pointer (some ⟨D, 0, none⟩) := ((hρ 26).trans (slotJ [23] (by rw [hsz]; decide) (by kernel_rfl))).trans (hF 23 (by decide))
      clear hρ hF hcst sl0 fin
      exact opv_enter (by go_simp <;> rfl) (of_ret (hp.out w1 hG))
    · refine owes_vt 18 true (Go.Op.binOp Go.BinOp.eql 3 (Go.Operand.tmp 25) (Go.Operand.tmp 27) 3) 4 [22, 24] (by kernel_rfl) (by kernel_rfl) (by kernel_rfl) (fun _ _ h => h) (by rw [hsz]; kernel_rfl) (by kernel_rfl) rfl fun vals w1 ρ hG hF hρ hcst hfun => ?_
      have e25 : ρ (.tmp 25) = .int .i64 z := ((hρ 25).trans (slotJ [22, 24] (by rw [hsz]; decide) (by kernel_rfl))).trans (hF 22 (by decide))
      have e27 : ρ (.tmp 27) = .int .i64 tp := ((hρ 27).trans (slotJ [22, 24] (by rw [hsz]; decide) (by kernel_rfl))).trans (hF 24 (by decide))
      subst hbb
      clear hρ hF hcst hfun sl0 fin
      exact opv_val (by go_simp <;> rfl) ⟨gw_self _, rfl⟩
    · refine owes_v (Go.Op.pick (Go.Operand.tmp 21) (Go.Operand.tmp 28) (Go.Operand.const (Go.Value.bool false))) 4 [18, 25] (by kernel_rfl) (by kernel_rfl) (by kernel_rfl) rfl fun vals w1 ρ hG hF hρ hcst hfun => ?_
      have e21 : ρ (.tmp 21) = .bool true := ((hρ 21).trans (slotJ [18, 25] (by rw [hsz]; decide) (by kernel_rfl))).trans (hF 18 (by decide))
      have e28 : ρ (.tmp 28) = .bool bb := ((hρ 28).trans (slotJ [18, 25] (by rw [hsz]; decide) (by kernel_rfl))).trans (hF 25 (by decide))
      clear hρ hF hfun sl0 fin
      exact opv_val (by go_simp <;> rfl) ⟨gw_self _, rfl⟩
    · exact owes_mvj 26 29 (by kernel_rfl) (by kernel_rfl) (by kernel_rfl) (by kernel_rfl) (by rw [hsz]; decide) (fun v w h => h)
  · intro vals w1 hG hF
    exact fin vals w1 hG (hF 27 (by decide +kernel))
theorem dn_f (Q : Exit → Act → World → Prop) (a0 : Act) (w : World) (D : Nat) (hQ : D < w.heap.size) (d5 : w.cell? ⟨D, 5, none⟩ = some (.bool true)) (hsz : a0.tmps.size = 30) (sl0 : a0.tmps.getD 0 undef = .pointer (some ⟨D, 0, none⟩))
    (fin : ∀ (vals : Nat → Value) (w1 : World), Below w.heap.size w w1 → (IsV (.bool false)) (vals 27) w1 → Q .normal (putD vals [3, 4, 5, 6, 7, 8, 9, 10, 11, 12, 13, 14, 15, 16, 17, 18, 19, 20, 21, 22, 23, 24, 25, 26, 27, 28, 29, 2] 0 a0) w1) :
    (Code.region 1 (regIn Try.f19 1) true).wp Try.prog Q a0 w := by
  refine region_by (G := fun w w1 => Below w.heap.size w w1) [IsV (.pointer (some ⟨D, 0, none⟩)),
    IsV (.pointer (some ⟨D, 0, none⟩)),
    IsV (.pointer (some ⟨D, 5, none⟩)),
    IsV (.bool true),
    IsV (.bool false),
    IsV (.bool false),
    IsV undef,
    IsV undef,
    IsV undef,
    IsV undef,
    IsV undef,
    IsV undef,
    IsV undef,
    IsV undef,
    IsV undef,
    IsV undef,
    IsV undef,
    IsV (.bool false),
    IsV (.bool false),
    IsV undef,
    IsV undef,
    IsV undef,
    IsV undef,
    IsV undef,
    IsV undef,
    IsV undef,
    IsV (.bool false),
    IsV (.bool false)]
    [3, 4, 5, 6, 7, 8, 9, 10, 11, 12, 13, 14, 15, 16, 17, 18, 19, 20, 21, 22, 23, 24, 25, 26, 27, 28, 29, 2] (by kernel_rfl) (Gw.drew _) Gw.trans (by rw [hsz]; kernel_rfl) (by kernel_rfl) ?_ ?_ ?_
  · intro f hf
    simp only [List.mem_cons, List.not_mem_nil, or_false] at hf
    rcases hf with rfl | rfl | rfl | rfl | rfl | rfl | rfl | rfl | rfl | rfl | rfl | rfl | rfl | rfl | rfl | rfl | rfl | rfl | rfl | rfl | rfl | rfl | rfl | rfl | rfl | rfl | rfl | rfl <;> intro v a b h g <;> first | exact IsV.mono h
  · refine ⟨?_, ?_, ?_, ?_, ?_, ?_, ?_, ?_, ?_, ?_, ?_, ?_, ?_, ?_, ?_, ?_, ?_, ?_, ?_, ?_, ?_, ?_, ?_, ?_, ?_, ?_, ?_, ?_, trivial⟩
    · exact owes_mv 0 (by kernel_rfl) (by kernel_rfl) (by kernel_rfl) sl0 (fun _ => rfl)
    · refine owes_v (Go.Op.nilCheck (Go.Operand.tmp 3)) 0 [0] (by kernel_rfl) (by kernel_rfl) (by kernel_rfl) rfl fun vals w1 ρ hG hF hρ hcst hfun => ?_
      have e3 : ρ (.tmp 3) = .pointer (some ⟨D, 0, none⟩) := ((hρ 3).trans (slotJ [0] (by rw [hsz]; decide) (by kernel_rfl))).trans (hF 0 (by decide))
      clear hρ hF hcst hfun sl0 fin
      exact opv_val (by go_simp <;> rfl) ⟨gw_self _, rfl⟩
    · refine owes_v (Go.Op.fieldAddr 84 (Go.Operand.tmp 4) 5) 0 [1] (by kernel_rfl) (by kernel_rfl) (by kernel_rfl) rfl fun vals w1 ρ hG hF hρ hcst hfun => ?_
      have e4 : ρ (.tmp 4) = .pointer (some ⟨D, 0, none⟩) := ((hρ 4).trans (slotJ [1] (by rw [hsz]; decide) (by kernel_rfl))).trans (hF 1 (by decide))
      clear hρ hF hcst hfun sl0 fin
      exact opv_val (by go_simp <;> rfl) ⟨gw_self _, rfl⟩
    · refine owes_v (Go.Op.load 4 (Go.Operand.tmp 5)) 4 [2] (by kernel_rfl) (by kernel_rfl) (by kernel_rfl) rfl fun vals w1 ρ hG hF hρ hcst hfun => ?_
      have e5 : ρ (.tmp 5) = .pointer (some ⟨D, 5, none⟩) := ((hρ 5).trans (slotJ [2] (by rw [hsz]; decide) (by kernel_rfl))).trans (hF 2 (by decide))
      have k := (hG.cell (p := ⟨D, 5, none⟩) hQ).trans d5
      clear hρ hF hcst hfun sl0 fin
      exact opv_val (by go_simp <;> rfl) ⟨gw_self _, rfl⟩
    · refine owes_v (Go.Op.unOp Go.UnOp.not 4 (Go.Operand.tmp 6)) 4 [3] (by kernel_rfl) (by kernel_rfl) (by kernel_rfl) rfl fun vals w1 ρ hG hF hρ hcst hfun => ?_
      have e6 : ρ (.tmp 6) = .bool true := ((hρ 6).trans (slotJ [3] (by rw [hsz]; decide) (by kernel_rfl))).trans (hF 3 (by decide))
      clear hρ hF hcst hfun sl0 fin
      exact opv_val (by go_simp <;> rfl) ⟨gw_self _, rfl⟩
    · exact owes_mvj 4 7 (by kernel_rfl) (by kernel_rfl) (by kernel_rfl) (by kernel_rfl) (by rw [hsz]; decide) (fun v w h => h)
    · exact owes_no 5 false true (by decide) (by kernel_rfl) (by kernel_rfl) (fun _ _ h => h) (by rw [hsz]; kernel_rfl) (fun _ => rfl)
    · exact owes_no 5 false true (by decide) (by kernel_rfl) (by kernel_rfl) (fun _ _ h => h) (by rw [hsz]; kernel_rfl) (fun _ => rfl)
    · exact owes_no 5 false true (by decide) (by kernel_rfl) (by kernel_rfl) (fun _ _ h => h) (by rw [hsz]; kernel_rfl) (fun _ => rfl)
    · exact owes_no 5 false true (by decide) (by kernel_rfl) (by kernel_rfl) (fun _ _ h => h) (by rw [hsz]; kernel_rfl) (fun _ => rfl)
    · exact owes_no 5 false true (by decide) (by kernel_rfl) (by kernel_rfl) (fun _ _ h => h) (by rw [hsz]; kernel_rfl) (fun _ => rfl)
    · exact owes_no 5 false true (by decide) (by kernel_rfl) (by kernel_rfl) (fun _ _ h => h) (by rw [hsz]; kernel_rfl) (fun _ => rfl)
    · exact owes_no 5 false true (by decide) (by kernel_rfl) (by kernel_rfl) (fun _ _ h => h) (by rw [hsz]; kernel_rfl) (fun _ => rfl)
    · exact owes_no 5 false true (by decide) (by kernel_rfl) (by kernel_rfl) (fun _ _ h => h) (by rw [hsz]; kernel_rfl) (fun _ => rfl)
    · exact owes_no 5 false true (by decide) (by kernel_rfl) (by kernel_rfl) (fun _ _ h => h) (by rw [hsz]; kernel_rfl) (fun _ => rfl)
    · exact owes_no 5 false true (by decide) (by kernel_rfl) (by kernel_rfl) (fun _ _ h => h) (by rw [hsz]; kernel_rfl) (fun _ => rfl)
    · exact owes_no 5 false true (by decide) (by kernel_rfl) (by kernel_rfl) (fun _ _ h => h) (by rw [hsz]; kernel_rfl) (fun _ => rfl)
    · refine owes_v (Go.Op.pick (Go.Operand.tmp 8) (Go.Operand.tmp 19) (Go.Operand.const (Go.Value.bool false))) 4 [5, 16] (by kernel_rfl) (by kernel_rfl) (by kernel_rfl) rfl fun vals w1 ρ hG hF hρ hcst hfun => ?_
      have e8 : ρ (.tmp 8) = .bool false := ((hρ 8).trans (slotJ [5, 16] (by rw [hsz]; decide) (by kernel_rfl))).trans (hF 5 (by decide))
      have e19 : ρ (.tmp 19) = undef := ((hρ 19).trans (slotJ [5, 16] (by rw [hsz]; decide) (by kernel_rfl))).trans (hF 16 (by decide))
      clear hρ hF hfun sl0 fin
      exact opv_val (by go_simp <;> rfl) ⟨gw_self _, rfl⟩
    · exact owes_mvj 17 20 (by kernel_rfl) (by kernel_rfl) (by kernel_rfl) (by kernel_rfl) (by rw [hsz]; decide) (fun v w h => h)
    · exact owes_no 18 false true (by decide) (by kernel_rfl) (by kernel_rfl) (fun _ _ h => h) (by rw [hsz]; kernel_rfl) (fun _ => rfl)
    · exact owes_no 18 false true (by decide) (by kernel_rfl) (by kernel_rfl) (fun _ _ h => h) (by rw [hsz]; kernel_rfl) (fun _ => rfl)
    · exact owes_no 18 false true (by decide) (by kernel_rfl) (by kernel_rfl) (fun _ _ h => h) (by rw [hsz]; kernel_rfl) (fun _ => rfl)
    · exact owes_no 18 false true (by decide) (by kernel_rfl) (by kernel_rfl) (fun _ _ h => h) (by rw [hsz]; kernel_rfl) (fun _ => rfl)
    · exact owes_no 18 false true (by decide) (by kernel_rfl) (by kernel_rfl) (fun _ _ h => h) (by rw [hsz]; kernel_rfl) (fun _ => rfl)
    · exact owes_no 18 false true (by decide) (by kernel_rfl) (by kernel_rfl) (fun _ _ h => h) (by rw [hsz]; kernel_rfl) (fun _ => rfl)
    · exact owes_no 18 false true (by decide) (by kernel_rfl) (by kernel_rfl) (fun _ _ h => h) (by rw [hsz]; kernel_rfl) (fun _ => rfl)
    · refine owes_v (Go.Op.pick (Go.Operand.tmp 21) (Go.Operand.tmp 28) (Go.Operand.const (Go.Value.bool false))) 4 [18, 25] (by kernel_rfl) (by kernel_rfl) (by kernel_rfl) rfl fun vals w1 ρ hG hF hρ hcst hfun => ?_
      have e21 : ρ (.tmp 21) = .bool false := ((hρ 21).trans (slotJ [18, 25] (by rw [hsz]; decide) (by kernel_rfl))).trans (hF 18 (by decide))
      have e28 : ρ (.tmp 28) = undef := ((hρ 28).trans (slotJ [18, 25] (by rw [hsz]; decide) (by kernel_rfl))).trans (hF 25 (by decide))
      clear hρ hF hfun sl0 fin
      exact opv_val (by go_simp <;> rfl) ⟨gw_self _, rfl⟩
    · exact owes_mvj 26 29 (by kernel_rfl) (by kernel_rfl) (by kernel_rfl) (by kernel_rfl) (by rw [hsz]; decide) (fun v w h => h)
  · intro vals w1 hG hF
    exact fin vals w1 hG (hF 27 (by decide +kernel))
section
variable {B Q : Nat} {S : Nat → Prop} {f : CoF} {roots : List Int} {xw : Value} {s : Sc} {n : Int} {l : List Nat}
theorem CoAt.step {w : World} {nx : Nat} (p : CoAt w B S Q f roots xw s n false) :
    Kept S w ((w.setCell ⟨Q, 3, none⟩ (.int .i64 nx)).setCell ⟨Q, 4, none⟩ (.int .u64 (n + 1))) ∧ CoAt ((w.setCell ⟨Q, 3, none⟩ (.int .i64 nx)).setCell ⟨Q, 4, none⟩ (.int .u64 (n + 1))) B S Q f roots xw ⟨s.c, s.qs, nx⟩ (n + 1) false := by
  have K2 := Kept.set w Q 3 (.int .i64 nx)
  have K3 := Kept.set (w.setCell ⟨Q, 3, none⟩ (.int .i64 nx)) Q 4 (.int .u64 (n + 1))
  have SQ : S Q := p.inc Q (by simp)
  have s2 := K2.size
  have s3 := K3.size
  have q4 := p.CQ
  refine ⟨(K2.more fun k e => by rw [e]; exact SQ).trans (K3.more fun k e => by rw [e]; exact SQ), ⟨?_, ?_, ?_, ?_, p.CQ, p.ne, p.neR, fun k h => by have := p.own k h; omega, p.inc⟩⟩
  · exact (p.cy.kept K2 (fun j hj => by omega)).kept K3 (fun j hj => by omega)
  · exact (p.blk.set 3 (.int .i64 nx)).set 4 (.int .u64 (n + 1))
  · exact K3.ow (K2.ow p.rr (fun k hk e => p.neR (e ▸ hk))) (fun k hk e => p.neR (e ▸ hk))
  · exact K3.ow (K2.ow p.ww (fun k hk e => (p.ne k hk).1 e)) (fun k hk e => (p.ne k hk).1 e)
theorem once_scan (w : World) (p : CoAt w B S Q f roots xw s n false) (hL : LenC s.c) (hO : OkC l f.b f.t s.c) (hrl : roots.length ≤ 100000) (hq : ¬ s.qs.length < roots.length) (hql : s.qs.length ≤ 100000) (ha : s.sc < s.c.top) (hg : goodX (s.c.T.getD s.sc 0#64) (s.c.top - s.sc) = true) (hp : PtL l s.c s.sc (P0 (s.c.T.getD s.sc 0#64)) 0) (hlb : ∀ y ∈ l, y < 8192) (hn0 : 0 ≤ n) (hn1 : n < 9223372036854775807) :
    Calls Try.prog 42 #[.pointer (some ⟨Q, 0, none⟩)] w (OnceP w B S Q f roots xw s n ((scanC s.sc (P0 (s.c.T.getD s.sc 0#64)) 0 s.c).map fun d => ⟨d, s.qs, s.sc + szX (s.c.T.getD s.sc 0#64)⟩)) := by
  obtain ⟨A, c, A2, c2, e1, e2⟩ := p.form
  have hk := p.blk
  rw [e1, e2] at hk
  obtain ⟨k0, k1, k2, k3, k4, k5⟩ := hk.six
  obtain ⟨cc1, cc2⟩ := p.cys
  have hQ := p.blk.lt
  have HSc := fun W (hb : Below w.heap.size w W) => scan_c W (p.cy.below hb) hL hO s.sc ha hg hp hlb
  have HP := Lib.hid p
  have t1 : ¬ (s.qs.length : Int) < (roots.length : Int) := by omega
  have t2 : (roots.length : Int) ≤ 100000 := by omega
  have t3 : (s.qs.length : Int) ≤ 100000 := by omega
  obtain ⟨i, hi⟩ : ∃ i, i = s.qs.length := ⟨_, rfl⟩
  obtain ⟨N, hN⟩ : ∃ N, N = roots.length := ⟨_, rfl⟩
  obtain ⟨C, hC⟩ : ∃ C, C = f.C := ⟨_, rfl⟩
  have HI := Lib.hid (And.intro hi (And.intro hN (And.intro hC (And.intro e1 e2))))
  obtain ⟨at_, hat⟩ : ∃ i, i = s.sc := ⟨_, rfl⟩
  obtain ⟨nx, hnx⟩ : ∃ i, i = s.sc + szX (s.c.T.getD s.sc 0#64) := ⟨_, rfl⟩
  have tn : (nx : Int) ≤ 100000 := by
    have h1 := (goodX_out hg).2.2
    have h2 := hL.2.1
    have h3 := hL.2.2
    omega
  rw [← hi] at t1 t3 k2
  rw [← hN] at t1 t2 k1
  rw [← hC] at k0
  rw [← hnx] at HSc
  have hk3 : w.cell? ⟨Q, 3, none⟩ = some (.int .i64 (at_ : Int)) := by rw [hat]; exact k3
  have hSc : Hid (∀ W, Below w.heap.size w W → Calls Try.prog 52 #[.pointer (some ⟨C, 0, none⟩), .int .i64 (at_ : Int)] W (ScanR W B f.H1 f.H2 f.C f.s1 f.g1 f.v1 f.s2 f.g2 f.v2 f.b f.t f.e l s.c nx (scanC s.sc (P0 (s.c.T.getD s.sc 0#64)) 0 s.c))) := by rw [hC, hat]; exact Lib.hid HSc
  rw [← hnx]
  obtain ⟨G, hG⟩ : ∃ G, G = CyS f.s2 f.v1 f.v2 := ⟨_, rfl⟩
  rw [← hG] at cc2
  have HGe := Lib.hid hG
  clear hk hL hO hi hN hC cc1 HSc e1 e2 p hrl hG k3 hat hnx hg hp hlb ha hq hql
  cases hr : scanC s.sc (P0 (s.c.T.getD s.sc 0#64)) 0 s.c with
  | none =>
    rw [hr] at hSc
    have HA : Hid (∀ W, Below w.heap.size w W → Calls Try.prog 52 #[.pointer (some ⟨C, 0, none⟩), .int .i64 (at_ : Int)] W (fun e w2 => ∃ v, e = .returned v ∧ Kept G W w2 ∧ AndV (.tuple #[.int .i64 0, .int .i64 6]) (fun z => ∃ d, CyAt z B f.H1 f.H2 f.C f.s1 f.g1 f.v1 f.s2 f.g2 f.v2 f.b f.t f.e d) v w2)) := Lib.hid fun W hW => (hSc.out W hW).mono fun r w2 h => ⟨_, h.1, by rw [HGe.out]; exact h.2.2, rfl, h.2.1⟩
    clear hSc hr
    go_enter Try.func42, Try.ntmps42
    go_wp2_with fail
    refine oc7 _ _ _ Q C G at_ 0 6 _ hQ cc2 k0 hk3 (fun _ _ h g => h.imp fun _ h => h.below g) HA rfl ?_ ?_
    · rfl
    intro vals w4 hG h4 h5 hcall
    unfold IsV at h4 h5
    simp only [putO, Act.put, List.setIfInBounds_toArray, List.set_cons_zero, List.set_cons_succ, h4, h5]
    have HE := Lib.hid (And.intro hcall.2 hG)
    clear hG h4 h5 hcall k0 k1 k2 hk3 k4 k5
    go_wp2_with fail
    go_ret
    have h1 := HE.out.2
    rw [HGe.out] at h1
    obtain ⟨d, hd⟩ := HE.out.1
    exact ⟨rfl, h1.more fun k hk => (HP.out.cys.1 k hk).1, _, HP.out.toCy h1 hd⟩
  | some d =>
    rw [hr] at hSc
    have HA : Hid (∀ W, Below w.heap.size w W → Calls Try.prog 52 #[.pointer (some ⟨C, 0, none⟩), .int .i64 (at_ : Int)] W (fun e w2 => ∃ v, e = .returned v ∧ Kept G W w2 ∧ AndV (.tuple #[.int .i64 (nx : Int), .int .i64 0]) (fun z => CyAt z B f.H1 f.H2 f.C f.s1 f.g1 f.v1 f.s2 f.g2 f.v2 f.b f.t f.e d) v w2)) := Lib.hid fun W hW => (hSc.out W hW).mono fun r w2 h => ⟨_, h.1, by rw [HGe.out]; exact h.2.2.1, rfl, h.2.1⟩
    clear hSc hr
    go_enter Try.func42, Try.ntmps42
    go_wp2_with fail
    refine oc7 _ _ _ Q C G at_ nx 0 _ hQ cc2 k0 hk3 (fun _ _ h g => h.below g) HA rfl ?_ ?_
    · rfl
    intro vals w4 hG h4 h5 hcall
    unfold IsV at h4 h5
    simp only [putO, Act.put, List.setIfInBounds_toArray, List.set_cons_zero, List.set_cons_succ, h4, h5]
    rw [HGe.out] at hG
    have p4 := HP.out.toCy hG hcall.2
    obtain ⟨g0, g1, g2, g3, g4, g5⟩ := p4.blk.six
    have gf3 := p4.blk.free 3
    have gf4 := p4.blk.free 4
    have hQ4 := p4.blk.lt
    have HE := Lib.hid (And.intro hG p4)
    clear hG h4 h5 hcall k0 k1 k2 hk3 k4 k5 p4
    go_wp2_with fail
    go_ret
    obtain ⟨x1, x2⟩ := HE.out.2.step (nx := nx)
    exact ⟨rfl, (HE.out.1.more fun k hk => (HP.out.cys.1 k hk).1).trans x1, _, _, x2, fun k hk => .inl hk⟩
/-- Done. -/
theorem done_c (w : World) (p : CoAt w B S Q f roots xw s n false) (hrl : roots.length ≤ 100000) (hql : s.qs.length ≤ 100000) :
    Calls Try.prog 19 #[.pointer (some ⟨Q, 0, none⟩)] w (RetP (.bool (decide (s.qs.length = roots.length ∧ s.sc = s.c.top))) w) := by
  obtain ⟨A, c, A2, c2, e1, e2⟩ := p.form
  have hk := p.blk
  rw [e1, e2] at hk
  obtain ⟨k0, k1, k2, k3, k4, k5⟩ := hk.six
  have hQ := p.blk.lt
  have hF := Lib.hid (fun W (hb : Below w.heap.size w W) => scfree_c W (p.below hb))
  obtain ⟨i, hi⟩ : ∃ i, i = s.qs.length := ⟨_, rfl⟩
  obtain ⟨N, hN⟩ : ∃ N, N = roots.length := ⟨_, rfl⟩
  obtain ⟨z, hz⟩ : ∃ z, z = s.sc := ⟨_, rfl⟩
  obtain ⟨tp, htp⟩ : ∃ z, z = s.c.top := ⟨_, rfl⟩
  rw [← hi] at k2
  rw [← hN] at k1
  rw [← hz] at k3
  rw [← htp] at hF
  rw [← hi, ← hN, ← hz, ← htp]
  clear hk e1 e2 p hrl hql hi hN hz htp
  by_cases hc : (i : Int) = (N : Int)
  · obtain ⟨bb, hbb⟩ : ∃ bb, bb = decide ((z : Int) = (tp : Int)) := ⟨_, rfl⟩
    have e : decide (i = N ∧ z = tp) = bb := by rw [hbb]; exact decide_eq_decide.2 ⟨fun h => by omega, fun h => ⟨by omega, by omega⟩⟩
    rw [e]
    clear e
    go_enter Try.func19, Try.ntmps19
    go_wp2_with fail
    refine dn_b _ _ _ Q i N c c2 A A2 z tp bb hQ k1 k2 k3 k5 hc hbb hF rfl ?_ ?_
    · rfl
    intro vals w1 hG h2
    unfold IsV at h2
    simp only [putD, Act.put, List.setIfInBounds_toArray, List.set_cons_zero, List.set_cons_succ, h2]
    have HB := Lib.hid hG
    clear hG h2 k0 k1 k2 k3 k4 k5 hc hbb
    go_wp2_with fail
    go_ret
    exact ⟨rfl, HB.out⟩
  · have e : decide (i = N ∧ z = tp) = false := decide_eq_false (fun h => hc (by omega))
    rw [e]
    clear e
    go_enter Try.func19, Try.ntmps19
    go_wp2_with fail
    refine dn_a _ _ _ Q i N c c2 A A2 hQ k1 k2 k5 hc rfl ?_ ?_
    · rfl
    intro vals w1 hG h2
    unfold IsV at h2
    simp only [putD, Act.put, List.setIfInBounds_toArray, List.set_cons_zero, List.set_cons_succ, h2]
    have HB := Lib.hid hG
    clear hG h2 k0 k1 k2 k3 k4 k5 hc
    go_wp2_with fail
    go_ret
    exact ⟨rfl, HB.out⟩
theorem done_full (w : World) (p : CoAt w B S Q f roots xw s n true) : Calls Try.prog 19 #[.pointer (some ⟨Q, 0, none⟩)] w (RetP (.bool false) w) := by
  obtain ⟨k0, k1, k2, k3, k4, k5⟩ := p.blk.six
  have hQ := p.blk.lt
  clear p
  go_enter Try.func19, Try.ntmps19
  go_wp2_with fail
  refine dn_f _ _ _ Q hQ k5 rfl ?_ ?_
  · rfl
  intro vals w1 hG h2
  unfold IsV at h2
  simp only [putD, Act.put, List.setIfInBounds_toArray, List.set_cons_zero, List.set_cons_succ, h2]
  have HB := Lib.hid hG
  clear hG h2 k0 k1 k2 k3 k4 k5
  go_wp2_with fail
  go_ret
  exact ⟨rfl, HB.out⟩
end
end Go.Proofs.Ytbanbpphadgoiaa
/- A collector does so many times what is next: Step. Conditions: lengths. -/
namespace Go.Proofs.Ytbanbpphadgoiaa
set_option linter.unusedVariables false
set_option linter.unusedSimpArgs false
open Go.RowKit Go.Maps
/-- What each step keeps. -/
structure SI (ws : List (BitVec 64)) (l : List Nat) (b t m : Nat) (ps : List Nat) (s : Sc) : Prop where
  inv : InvC l ws b t s.c
  len : s.c.T.length = m
  qs : s.qs.length ≤ ps.length
  ord : ∃ ys, (∀ a ∈ ys, a ∈ l) ∧ Chain ws s.c.T ys s.sc s.c.top
section
variable {ws : List (BitVec 64)} {l : List Nat} {b t m : Nat} {ps : List Nat} {s s' : Sc}
theorem StI.si {z : Nat} (h : StI ws l b t m ps s z) : SI ws l b t m ps s := by
  obtain ⟨zs, ys, _, h2, _, h4⟩ := h.ord
  exact ⟨h.inv, h.len, h.qs, ys, fun a ha => h2.2.2.1 a (List.mem_append.2 (.inr ha)), h4⟩
theorem si_start (H : Heap ws l b t) (hm : m ≤ 8192) : SI ws l b t m ps (NewS ws m) := ⟨inv_start H hm, by simp [NewS], Nat.zero_le _, [], (fun _ h => (by cases h)), rfl⟩
theorem done_no (hq : s.qs.length ≤ ps.length) (h : doneS ps s = false) (hn : ¬ s.qs.length < ps.length) : s.sc ≠ s.c.top := by
  intro e
  have : doneS ps s = true := by unfold doneS; exact decide_eq_true ⟨by omega, e⟩
  rw [this] at h; cases h
theorem SI.once (H : Heap ws l b t) (hps : ∀ p ∈ ps, p = 0 ∨ (1 ≤ p ∧ p - 1 ∈ l)) (h : SI ws l b t m ps s) (hd : doneS ps s = false) (he : onceS ps s = some s') : SI ws l b t m ps s' ∧ measS m ps s' < measS m ps s := by
  obtain ⟨ys, h1, h2⟩ := h.ord
  have hle := h2.le
  have htm : s.c.top ≤ m := by have := h.inv.2.1.2.2; rw [h.len] at this; exact this
  by_cases hq : s.qs.length < ps.length
  · have hp := hps (ps.getD s.qs.length 0) (by rw [List.getD_eq_getElem?_getD, List.getElem?_eq_getElem hq]; exact List.getElem_mem _)
    unfold onceS at he
    rw [if_pos hq] at he
    cases hr : takeP s.c (ps.getD s.qs.length 0) with
    | none => rw [hr] at he; cases he
    | some z =>
      obtain ⟨q, d⟩ := z
      rw [hr] at he
      injection he with he
      subst he
      obtain ⟨k1, ext, k2, k3⟩ := takeP_inv H h.inv hp h2 hr
      obtain ⟨_, _, _, _, j5, _⟩ := takeP_ok h.inv.1 h.inv.2.1 hp hr
      refine ⟨⟨k1, j5.trans h.len, by simp; omega, ys ++ ext, fun a ha => (List.mem_append.1 ha).elim (h1 a) (k2 a), k3⟩, ?_⟩
      show (ps.length - (s.qs ++ [q]).length) + (m - s.sc) < (ps.length - s.qs.length) + (m - s.sc)
      simp; omega
  · have hne : s.sc < s.c.top := by have := done_no h.qs hd hq; omega
    obtain ⟨a, ys2, rfl, n1, n2, n3, n4, n5, n6, n7, n8⟩ := next_obj H h.inv h2 h1 hne
    unfold onceS at he
    rw [if_neg hq] at he
    cases hr : scanC s.sc (P0 (s.c.T.getD s.sc 0#64)) 0 s.c with
    | none => rw [hr] at he; cases he
    | some d =>
      rw [hr] at he
      injection he with he
      subst he
      obtain ⟨j1, ⟨ext, j2, j3⟩, j4, j5, j6, j7⟩ := scanC_inv H (P0 (s.c.T.getD s.sc 0#64)) 0 s.c ys2 (by omega) h.inv n5 n6 n4 n7 (fun a h => h1 a (.tail _ h)) hr
      refine ⟨⟨j1, j5.trans h.len, h.qs, ys2 ++ ext, fun a h => (List.mem_append.1 h).elim (fun h => h1 a (.tail _ h)) (j2 a), j3⟩, ?_⟩
      show (ps.length - s.qs.length) + (m - (s.sc + szX (s.c.T.getD s.sc 0#64))) < (ps.length - s.qs.length) + (m - s.sc)
      omega
end
/-- So many times what is next, and how often something was done. -/
def goS (ps : List Nat) : Nat → Sc → Nat → Option (Sc × Nat)
  | 0, s, c => some (s, c)
  | k + 1, s, c => if doneS ps s = true then some (s, c) else match onceS ps s with
    | none => none
    | some s' => goS ps k s' (c + 1)
theorem goS_done {ps : List Nat} {s : Sc} (h : doneS ps s = true) (c : Nat) : ∀ k, goS ps k s c = some (s, c)
  | 0 => rfl
  | k + 1 => by unfold goS; rw [if_pos h]
section
variable {B Q m : Nat} {S : Nat → Prop} {f : CoF} {roots : List Int} {xw : Value} {s : Sc} {l : List Nat} {ws : List (BitVec 64)}
theorem Kept.transF {S S' : Nat → Prop} {w w1 w2 : World} (h : Kept S w w1) (k : Kept S' w1 w2) (hS : ∀ j, S' j → S j ∨ w.heap.size ≤ j) : Kept S w w2 :=
  ⟨k.os.trans h.os, k.tape.trans h.tape, k.output.trans h.output, Nat.le_trans h.size k.size, fun i hi hn => (k.block i (Nat.lt_of_lt_of_le hi h.size) (fun hs => (hS i hs).elim hn (fun h => by omega))).trans (h.block i hi hn)⟩
/-- The roots are known. -/
def RootsOk (l : List Nat) (roots : List Int) : Prop := roots.all (rootB l) = true ∧ roots.length ≤ 100000
theorem RootsOk.ps (h : RootsOk l roots) : ∀ p ∈ roots.map rootP, p = 0 ∨ (1 ≤ p ∧ p - 1 ∈ l) := by
  intro p hp
  obtain ⟨r, hr, rfl⟩ := List.mem_map.1 hp
  exact (rootP_of (List.all_eq_true.1 h.1 r hr)).2
theorem once_c (w : World) (c : Nat) (H : Heap ws l f.b f.t) (hR : RootsOk l roots) (p : CoAt w B S Q f roots xw s c false) (h : SI ws l f.b f.t m (roots.map rootP) s) (hd : doneS (roots.map rootP) s = false) (hc : c < 9223372036854775807) :
    Calls Try.prog 42 #[.pointer (some ⟨Q, 0, none⟩)] w (OnceP w B S Q f roots xw s c (onceS (roots.map rootP) s)) := by
  have hrl := hR.2
  by_cases hq : s.qs.length < roots.length
  · obtain ⟨y, hy⟩ : ∃ y, y = roots[s.qs.length] := ⟨_, rfl⟩
    obtain ⟨h1, h2⟩ := rootP_of (List.all_eq_true.1 hR.1 y (by rw [hy]; exact List.getElem_mem _))
    have e : onceS (roots.map rootP) s = ((takeP s.c (rootP y)).map fun r => ⟨r.2, s.qs ++ [r.1], s.sc⟩) := by
      unfold onceS
      rw [if_pos (by rw [List.length_map]; exact hq)]
      congr 2
      rw [List.getD_eq_getElem?_getD, List.getElem?_map, List.getElem?_eq_getElem hq, hy]
      rfl
    rw [e]
    exact once_root w p h.inv.2.1 h.inv.1 hrl hq y hy.symm h1 h2 (by omega) (by omega)
  · have e : onceS (roots.map rootP) s = ((scanC s.sc (P0 (s.c.T.getD s.sc 0#64)) 0 s.c).map fun d => ⟨d, s.qs, s.sc + szX (s.c.T.getD s.sc 0#64)⟩) := by
      unfold onceS
      rw [if_neg (by rw [List.length_map]; exact hq)]
    rw [e]
    obtain ⟨ys, h1, h2⟩ := h.ord
    have hle := h2.le
    have hne : s.sc < s.c.top := by have := done_no h.qs hd (by rw [List.length_map]; exact hq); omega
    obtain ⟨a, ys2, rfl, n1, n2, n3, n4, n5, n6, n7, n8⟩ := next_obj H h.inv h2 h1 hne
    have hql := h.qs
    rw [List.length_map] at hql
    exact once_scan w p h.inv.2.1 h.inv.1 hrl hq (by omega) hne n3 n4 (fun y hy => by have := (H.good y hy).2.1; have := H.tl; have := H.wl; omega) (by omega) (by omega)
/-- What Step does. -/
def StepP (w : World) (B : Nat) (S : Nat → Prop) (Q : Nat) (f : CoF) (roots : List Int) (x : Option (Sc × Nat)) (r : Ending) (w' : World) : Prop := match x with
  | some (s', c') => r = .returned (.tuple #[.bool (doneS (roots.map rootP) s'), .int .i64 0]) ∧ Kept S w w' ∧ ∃ (S' : Nat → Prop) (xw' : Value), CoAt w' B S' Q f roots xw' s' c' false ∧ ∀ k, S' k → S k ∨ w.heap.size ≤ k
  | none => r = .returned (.tuple #[.bool false, .int .i64 6]) ∧ Kept S w w' ∧ ∃ (S' : Nat → Prop) (xw' : Value) (s' : Sc) (c' : Nat), CoAt w' B S' Q f roots xw' s' c' true ∧ ∀ k, S' k → S k ∨ w.heap.size ≤ k
theorem CoAt.fill {w : World} {n : Int} (p : CoAt w B S Q f roots xw s n false) : Kept S w (w.setCell ⟨Q, 5, none⟩ (.bool true)) ∧ CoAt (w.setCell ⟨Q, 5, none⟩ (.bool true)) B S Q f roots xw s n true := by
  have K2 := Kept.set w Q 5 (.bool true)
  have SQ : S Q := p.inc Q (by simp)
  have s2 := K2.size
  have q4 := p.CQ
  refine ⟨K2.more fun k e => by rw [e]; exact SQ, ⟨?_, ?_, ?_, ?_, p.CQ, p.ne, p.neR, fun k h => by have := p.own k h; omega, p.inc⟩⟩
  · exact p.cy.kept K2 (fun j hj => by omega)
  · exact p.blk.set 5 (.bool true)
  · exact K2.ow p.rr (fun k hk e => p.neR (e ▸ hk))
  · exact K2.ow p.ww (fun k hk e => (p.ne k hk).1 e)
theorem step_full (w : World) (n : Int) {c : Int} (p : CoAt w B S Q f roots xw s c true) : Calls Try.prog 15 #[.pointer (some ⟨Q, 0, none⟩), .int .i64 n] w (RetP (.tuple #[.bool false, .int .i64 6]) w) := by
  obtain ⟨c0, c1, c2, c3, c4, c5⟩ := p.blk.six
  clear p
  go_enter Try.func15, Try.ntmps15
  go_wp2_with fail
  go_ret2
  exact ⟨rfl, Below.refl _ _⟩
set_option maxHeartbeats 4000000
set_option maxRecDepth 100000
theorem step_c (w : World) (c : Nat) (H : Heap ws l f.b f.t) (hR : RootsOk l roots) (p : CoAt w B S Q f roots xw s c false) (h : SI ws l f.b f.t m (roots.map rootP) s) (n : Int) (hn : n ≤ 9223372036854775807) (hc : c + measS m (roots.map rootP) s ≤ 1000000) :
    Calls Try.prog 15 #[.pointer (some ⟨Q, 0, none⟩), .int .i64 n] w (StepP w B S Q f roots (goS (roots.map rootP) n.toNat s c)) := by
  have HH := Lib.hid H
  have HR := Lib.hid hR
  obtain ⟨c0, c1, c2, c3, c4, c5⟩ := p.blk.six
  obtain ⟨R, hRe⟩ : ∃ R, R = goS (roots.map rootP) n.toNat s c := ⟨_, rfl⟩
  rw [← hRe]
  have HS := Lib.hid (show ∃ (S' : Nat → Prop) (xw' : Value) (s' : Sc) (c' : Nat), CoAt w B S' Q f roots xw' s' c' false ∧ SI ws l f.b f.t m (roots.map rootP) s' ∧ Kept S w w ∧ (∀ k, S' k → S k ∨ w.heap.size ≤ k) ∧ c' + measS m (roots.map rootP) s' ≤ 1000000 ∧ goS (roots.map rootP) (n.toNat - 0) s' c' = R from ⟨S, xw, s, c, p, h, Kept.refl _ _, fun _ h => .inl h, hc, hRe.symm⟩)
  clear hc h hR H p hRe
  go_enter Try.func15, Try.ntmps15
  go_wp2_with fail
  go_loopw [6] (fun x W => ∃ k : Nat, x = .int .i64 k ∧ k ≤ n.toNat ∧ Hid (∃ (S' : Nat → Prop) (xw' : Value) (s' : Sc) (c' : Nat), CoAt W B S' Q f roots xw' s' c' false ∧ SI ws l f.b f.t m (roots.map rootP) s' ∧ Kept S w W ∧ (∀ k, S' k → S k ∨ w.heap.size ≤ k) ∧ c' + measS m (roots.map rootP) s' ≤ 1000000 ∧ goS (roots.map rootP) (n.toNat - k) s' c' = R)) (fun x _ => n.toNat - (Go.RowKit.intOf x).toNat)
  case atStart => exact ⟨0, rfl, Nat.zero_le _, HS⟩
  case round =>
    obtain ⟨k, rfl, hk, hS⟩ := hrel
    obtain ⟨S', xw', s', c', e1, e2, e3, e4, e5, e6⟩ := hS.out
    have hql := e2.qs
    rw [List.length_map] at hql
    have HD := Lib.hid (fun W (hb : Below wr.heap.size wr W) => done_c W (e1.below hb) HR.out.2 (by have := HR.out.2; omega))
    have hdd : decide (s'.qs.length = roots.length ∧ s'.sc = s'.c.top) = doneS (roots.map rootP) s' := by unfold doneS; rw [List.length_map]
    rw [hdd] at HD
    clear c0 c1 c2 c3 c4 c5 HS
    have HE := Lib.hid (And.intro e1 (And.intro e2 (And.intro e3 e4)))
    obtain ⟨c0, c1, c2, c3, c4, c5⟩ := e1.blk.six
    by_cases hlt : (k : Int) < n
    · obtain ⟨j, hj⟩ : ∃ j, n.toNat - k = j + 1 := ⟨n.toNat - k - 1, by omega⟩
      rw [hj] at e6
      unfold goS at e6
      cases hb : doneS (roots.map rootP) s' with
      | true =>
        rw [hb] at HD e6
        have hR : R = some (s', c') := e6.symm.trans (if_pos rfl)
        have HRe := Lib.hid (And.intro hR hb)
        clear hS e1 e2 e3 e4 e5 e6 hql hdd hj hR hb
        go_wp2_with fail
        refine Calls.mono (HD.out wr (Below.refl _ _)) ?_
        rintro r w6 ⟨rfl, b6⟩
        have H6 := Lib.hid b6
        clear b6 c0 c1 c2 c3 c4 c5
        go_wp2_with fail
        refine Calls.mono (HD.out w6 H6.out) ?_
        rintro r w7 ⟨rfl, b7⟩
        have H7 := Lib.hid (H6.out.trans (b7.mono H6.out.size))
        clear b7
        go_wp2_with fail
        go_ret2
        rw [HRe.out.1]
        exact ⟨by rw [HRe.out.2]; rfl, HE.out.2.2.1.trans (Kept.of_below H7.out _), _, _, HE.out.1.below H7.out, HE.out.2.2.2⟩
      | false =>
        rw [hb] at HD e6
        have HO := Lib.hid (fun W (hB : Below wr.heap.size wr W) => once_c W c' HH.out HR.out (e1.below hB) e2 hb (by omega))
        cases ho : onceS (roots.map rootP) s' with
        | none =>
          rw [ho] at HO e6
          have HRe := Lib.hid (show R = none from e6.symm.trans (if_neg (by simp)))
          have HOn := Lib.hid (show ∀ W, Below wr.heap.size wr W → Calls Try.prog 42 #[.pointer (some ⟨Q, 0, none⟩)] W (fun r w' => r = .returned (.int .i64 6) ∧ Kept S' W w' ∧ ∃ s', CoAt w' B S' Q f roots xw' s' c' false) from HO.out)
          clear hS e1 e2 e3 e4 e5 e6 hql hdd hj hb HO ho
          go_wp2_with fail
          refine Calls.mono (HD.out wr (Below.refl _ _)) ?_
          rintro r w6 ⟨rfl, b6⟩
          have H6 := Lib.hid b6
          clear b6 c0 c1 c2 c3 c4 c5
          go_wp2_with fail
          refine Calls.mono (HOn.out w6 H6.out) ?_
          rintro r w7 ⟨rfl, k7, s7, p7⟩
          have H7 := Lib.hid (And.intro k7 p7)
          obtain ⟨c0, c1, c2, c3, c4, c5⟩ := p7.blk.six
          have cf := p7.blk.free 5
          have hQ7 := p7.blk.lt
          clear k7 p7
          go_wp2_with fail
          go_ret2
          rw [HRe.out]
          obtain ⟨x1, x2⟩ := H7.out.2.fill
          exact ⟨rfl, (HE.out.2.2.1.trans (Kept.of_below H6.out _)).transF (H7.out.1.trans x1) HE.out.2.2.2, _, _, _, _, x2, HE.out.2.2.2⟩
        | some s2 =>
          rw [ho] at HO e6
          have e6 : goS (roots.map rootP) j s2 (c' + 1) = R := (if_neg (by simp)).symm.trans e6
          obtain ⟨i1, i2⟩ := e2.once HH.out HR.out.ps hb ho
          have HNx := Lib.hid (And.intro i1 (And.intro (show (c' + 1) + measS m (roots.map rootP) s2 ≤ 1000000 by omega) (show goS (roots.map rootP) (n.toNat - (k + 1)) s2 (c' + 1) = R by rw [show n.toNat - (k + 1) = j by omega]; exact e6)))
          have HOn := Lib.hid (show ∀ W, Below wr.heap.size wr W → Calls Try.prog 42 #[.pointer (some ⟨Q, 0, none⟩)] W (fun r w' => r = .returned (.int .i64 0) ∧ Kept S' W w' ∧ ∃ (S2 : Nat → Prop) (xw2 : Value), CoAt w' B S2 Q f roots xw2 s2 ((c' + 1 : Nat) : Int) false ∧ ∀ k, S2 k → S' k ∨ W.heap.size ≤ k) from HO.out)
          clear hS e1 e2 e3 e4 e5 e6 hql hdd hj hb HO ho i1 i2
          go_wp2_with fail
          refine Calls.mono (HD.out wr (Below.refl _ _)) ?_
          rintro r w6 ⟨rfl, b6⟩
          have H6 := Lib.hid b6
          clear b6 c0 c1 c2 c3 c4 c5
          go_wp2_with fail
          refine Calls.mono (HOn.out w6 H6.out) ?_
          rintro r w7 ⟨rfl, k7, S2, xw2, p7, n7⟩
          have hks := (HE.out.2.2.1.trans (Kept.of_below H6.out _)).size
          have H7 := Lib.hid (show ∃ (S' : Nat → Prop) (xw' : Value) (s' : Sc) (c' : Nat), CoAt w7 B S' Q f roots xw' s' c' false ∧ SI ws l f.b f.t m (roots.map rootP) s' ∧ Kept S w w7 ∧ (∀ k, S' k → S k ∨ w.heap.size ≤ k) ∧ c' + measS m (roots.map rootP) s' ≤ 1000000 ∧ goS (roots.map rootP) (n.toNat - (k + 1)) s' c' = R from
            ⟨S2, xw2, s2, c' + 1, p7, HNx.out.1, (HE.out.2.2.1.trans (Kept.of_below H6.out _)).transF k7 HE.out.2.2.2, fun i hi => (n7 i hi).elim (HE.out.2.2.2 i) (fun h => .inr (Nat.le_trans hks h)), HNx.out.2.1, HNx.out.2.2⟩)
          clear k7 p7 n7 hks
          have hk2 : k + 1 ≤ n.toNat := by omega
          have hk3 : (k : Int) + 1 ≤ 9223372036854775807 := by omega
          go_wp2_with fail
          go_roundw
          case rel => first | exact ⟨k + 1, by go_num, hk2, H7⟩ | ((repeat apply Exists.intro); refine ⟨?_, rfl⟩; exact ⟨k + 1, by go_num, hk2, H7⟩)
          case measure => simp [Go.RowKit.intOf]; omega
    · have hz : n.toNat - k = 0 := by omega
      rw [hz] at e6
      have HRe := Lib.hid (show R = some (s', c') from e6.symm)
      clear hS e1 e2 e3 e4 e5 e6 hql hdd hz
      go_wp2_with fail
      refine Calls.mono (HD.out wr (Below.refl _ _)) ?_
      rintro r w7 ⟨rfl, b7⟩
      have H7 := Lib.hid b7
      clear b7 c0 c1 c2 c3 c4 c5
      go_wp2_with fail
      go_ret2
      rw [HRe.out]
      exact ⟨rfl, HE.out.2.2.1.trans (Kept.of_below H7.out _), _, _, HE.out.1.below H7.out, HE.out.2.2.2⟩
end
end Go.Proofs.Ytbanbpphadgoiaa
/- What codec.Enc writes: its bytes behind what it holds. Conditions: lengths. -/
namespace Go.Proofs.Ytbanbpphadgoiaa
set_option linter.unusedVariables false
set_option linter.unusedSimpArgs false
open Go.RowKit
/-- Block g holds a row of the call's own, v, of the bytes bs. -/
structure EncAt (w : World) (B g : Nat) (v : Value) (bs : List (BitVec 8)) : Prop where
  blk : Bk w g 92 #[v]
  ge : B ≤ g
  row : Ow b8 5 w B v bs
  ne : v.ownBlock ≠ some g
/-- Of what was there block g and the row v alone may have turned; the row is what it was, or new. -/
structure Moved (w w' : World) (g : Nat) (v v' : Value) : Prop where
  os : w'.os = w.os
  tape : w'.tape = w.tape
  output : w'.output = w.output
  size : w.heap.size ≤ w'.heap.size
  block : ∀ k, k < w.heap.size → k ≠ g → v.ownBlock ≠ some k → w'.heap[k]? = w.heap[k]?
  own : v'.ownBlock = v.ownBlock ∨ ∀ k, v'.ownBlock = some k → w.heap.size ≤ k
theorem Moved.refl (w : World) (g : Nat) (v : Value) : Moved w w g v v := ⟨rfl, rfl, rfl, Nat.le_refl _, fun _ _ _ _ => rfl, .inl rfl⟩
theorem Moved.trans {a b c : World} {g : Nat} {u v x : Value} (h : Moved a b g u v) (k : Moved b c g v x) : Moved a c g u x :=
  ⟨k.os.trans h.os, k.tape.trans h.tape, k.output.trans h.output, Nat.le_trans h.size k.size, fun i hi h1 h2 => by
    rw [k.block i (Nat.lt_of_lt_of_le hi h.size) h1 ?_, h.block i hi h1 h2]
    rcases h.own with e | e
    · rw [e]; exact h2
    · intro h3
      have := e i h3
      omega, by
    rcases k.own with e | e
    · rcases h.own with e2 | e2
      · left; rw [e, e2]
      · right; intro i hi; rw [e] at hi; exact e2 i hi
    · right; intro i hi; exact Nat.le_trans h.size (e i hi)⟩
theorem Moved.below {w w' : World} {B g : Nat} {v v' : Value} {bs : List (BitVec 8)} (h : Moved w w' g v v') (e : EncAt w B g v bs) : Below B w w' :=
  ⟨h.os, h.tape, h.output, h.size, fun k hk => by
    rcases Nat.lt_or_ge k w.heap.size with hl | hl
    · refine h.block k hl (fun e2 => by have := e.ge; omega) (fun e2 => ?_)
      have := (e.row.lt k e2).1
      omega
    · have := e.blk.lt
      have := e.ge
      omega⟩
theorem Moved.drew {w w' : World} {g : Nat} {v v' : Value} (h : Moved w w' g v v') : Moved w w'.drew g v v' := ⟨h.os, h.tape, h.output, h.size, h.block, h.own⟩
theorem ow_slice {α : Type} {f : α → Value} {E : TypeId} {w : World} {base : Nat} {v : Value} {xs : List α} (h : Ow f E w base v xs) : ∃ A n c, v = .slice A n c := by
  obtain ⟨A, c, e, _⟩ := h.form
  exact ⟨A, _, c, e⟩
theorem bkGrown {w w' : World} {g : Nat} {E : TypeId} {cs : Array Value} {row : Option Nat} (h : Bk w g E cs) (hg : w.grownBy w' row) (hne : some g ≠ row) : Bk w' g E cs := (hg.block g h.lt hne).trans h
theorem enc_step {wr w4 : World} {B g : Nat} {v v' : Value} {xs ys : List (BitVec 8)} {o : Obj} (h : EncAt wr B g v xs) (ho : Ow b8 5 w4 B v' (xs ++ ys)) (hg : (wr.alloc o).grownBy w4 v.ownBlock)
    (hv : v'.ownBlock = v.ownBlock ∨ v'.ownBlock = some (wr.alloc o).heap.size) : EncAt (w4.setCell ⟨g, 0, none⟩ v') B g v' (xs ++ ys) ∧ Moved wr (w4.setCell ⟨g, 0, none⟩ v') g v v' := by
  have hgl := h.blk.lt
  have hb4 : Bk w4 g 92 #[v] := bkGrown (h.blk.alloc o) hg (fun e => h.ne e.symm)
  have hne : v'.ownBlock ≠ some g := by
    rcases hv with e | e
    · rw [e]; exact h.ne
    · rw [e]; intro h2; injection h2 with h2; simp at h2; omega
  refine ⟨⟨hb4.set 0 v', h.ge, ?_, hne⟩, ?_⟩
  · obtain ⟨h1, h2⟩ := ho
    refine ⟨h1, ?_⟩
    rcases h2 with h2 | ⟨g', cap, cur, e, hB, hh, r⟩
    · exact .inl h2
    · refine .inr ⟨g', cap, cur, e, hB, ?_, r⟩
      rw [Below.heap_setCell]
      · exact hh
      · intro e2
        subst e2
        exact hne (by rw [e]; rfl)
  · refine ⟨hg.os, hg.tape, hg.output, ?_, ?_, ?_⟩
    · have := hg.size
      simp at this ⊢
      omega
    · intro k hk h1 h2
      rw [Below.heap_setCell _ _ _ _ h1, hg.block k (by simp; omega) (fun e => h2 e.symm), Below.heap_alloc _ _ _ hk]
    · rcases hv with e | e
      · exact .inl e
      · right; intro k hk; rw [e] at hk; injection hk with hk; simp at hk; omega
theorem enc_step0 {wr w4 : World} {B g : Nat} {v v' : Value} {xs ys : List (BitVec 8)} (h : EncAt wr B g v xs) (ho : Ow b8 5 w4 B v' (xs ++ ys)) (hg : wr.grownBy w4 v.ownBlock)
    (hv : v'.ownBlock = v.ownBlock ∨ v'.ownBlock = some wr.heap.size) : EncAt (w4.setCell ⟨g, 0, none⟩ v') B g v' (xs ++ ys) ∧ Moved wr (w4.setCell ⟨g, 0, none⟩ v') g v v' := by
  have hgl := h.blk.lt
  have hb4 : Bk w4 g 92 #[v] := bkGrown h.blk hg (fun e => h.ne e.symm)
  have hne : v'.ownBlock ≠ some g := by
    rcases hv with e | e
    · rw [e]; exact h.ne
    · rw [e]; intro h2; injection h2 with h2; omega
  refine ⟨⟨hb4.set 0 v', h.ge, ?_, hne⟩, ?_⟩
  · obtain ⟨h1, h2⟩ := ho
    refine ⟨h1, ?_⟩
    rcases h2 with h2 | ⟨g', cap, cur, e, hB, hh, r⟩
    · exact .inl h2
    · refine .inr ⟨g', cap, cur, e, hB, ?_, r⟩
      rw [Below.heap_setCell]
      · exact hh
      · intro e2
        subst e2
        exact hne (by rw [e]; rfl)
  · refine ⟨hg.os, hg.tape, hg.output, ?_, ?_, ?_⟩
    · have := hg.size
      simp at this ⊢
      omega
    · intro k hk h1 h2
      rw [Below.heap_setCell _ _ _ _ h1, hg.block k hk (fun e => h2 e.symm)]
    · rcases hv with e | e
      · exact .inl e
      · right; intro k hk; rw [e] at hk; injection hk with hk; omega
def uintF : Nat → BitVec 64 → List (BitVec 8)
  | 0, v => [v.setWidth 8]
  | n + 1, v => if v.toNat < 128 then [v.setWidth 8] else (v.setWidth 8 ||| 128#8) :: uintF n (v >>> 7)
def uintL (v : BitVec 64) : List (BitVec 8) := uintF 9 v
theorem uintF_len (n : Nat) : ∀ v, (uintF n v).length ≤ n + 1 := by
  induction n with
  | zero => intro v; simp [uintF]
  | succ n ih =>
    intro v
    unfold uintF
    split
    · simp
    · have := ih (v >>> 7)
      simp; omega
theorem uintF_small {n : Nat} {v : BitVec 64} (h : v.toNat < 128) : uintF n v = [v.setWidth 8] := by
  cases n with
  | zero => rfl
  | succ n => unfold uintF; rw [if_pos h]
theorem or128 (x : BitVec 8) : bits .or .u8 (U8 x) 128 = U8 (x ||| 128#8) := by
  rw [show (128 : Int) = U8 128#8 from by decide +kernel, orU8]
theorem shr7 (x : BitVec 64) : U64 x / (128 : Int) = U64 (x >>> 7) := by
  have h := shrU64 x 7
  rw [← h]; rfl
def EncP (B g : Nat) (v : Value) (bs : List (BitVec 8)) (w : World) (e : Ending) (w' : World) : Prop := e = .returned (.tuple #[]) ∧ ∃ v', EncAt w' B g v' bs ∧ Moved w w' g v v'
set_option maxHeartbeats 400000
set_option maxRecDepth 100000
theorem enc_uint (w : World) (B g : Nat) (v : Value) (bs : List (BitVec 8)) (x : BitVec 64) (h : EncAt w B g v bs) (hl : bs.length ≤ 1073741824) :
    Calls Try.prog 43 #[.pointer (some ⟨g, 0, none⟩), .int .u64 (U64 x)] w (EncP B g v (bs ++ uintL x) w) := by
  go_enter Try.func43, Try.ntmps43
  go_wp2
  go_loopw [1] (fun c wr => ∃ (n : Nat) (pre : List (BitVec 8)) (cur : BitVec 64) (v' : Value), c = .int .u64 (U64 cur) ∧ Hid (uintL x = pre ++ uintF n cur) ∧ Hid (cur.toNat < 2 ^ (7 * n + 1)) ∧ Hid (pre.length + n = 9) ∧ EncAt wr B g v' (bs ++ pre) ∧ Moved w wr g v v') (fun c _ => (Go.RowKit.intOf c).toNat)
  case atStart => exact ⟨9, [], x, v, rfl, Lib.hid rfl, Lib.hid (by have := x.isLt; omega), Lib.hid rfl, by rw [List.append_nil]; exact h, Moved.refl _ _ _⟩
  case round =>
    obtain ⟨n, pre, cur, v', rfl, h1, h2, h3, he, hm⟩ := hrel
    have hcell := he.blk.cell 0
    have hfree := he.blk.free 0
    have hgl := he.blk.lt
    have e0 := u64_u8m cur
    by_cases hc : cur.toNat < 128
    · have t1 : decide (128 ≤ U64 cur) = false := by unfold U64; simp; omega
      have hend : uintL x = pre ++ [cur.setWidth 8] := by rw [h1.out, uintF_small hc]
      have HE := Lib.hid hend
      have hlen : pre.length ≤ 9 := by have := h3.out; omega
      clear hend hc
      go_wp2_with (at_builtin; refine wp_app one8 b8_one rfl (.tmp 24) (.tmp 27) rfl B v' (bs ++ pre) rfl (he.row.alloc _) (some ⟨wr.heap.size, 0, none⟩) 1 1 [cur.setWidth 8] rfl rfl (wr.heap.size + 1) (rd1_new rfl) (by simp; omega) (by decide) (by have := he.ge; simp; omega) ?_; intro v4 w4 ho4 hb4 hg4 hv4; obtain ⟨A4, n4, c4, rfl⟩ := ow_slice ho4; have hk4 := bkGrown (he.blk.alloc _) hg4 (fun e => he.ne e.symm); have hc4 := hk4.cell 0; have hf4 := hk4.free 0; have hl4 := hk4.lt)
      go_end0
      obtain ⟨s1, s2⟩ := enc_step he ho4 hg4 hv4
      exact ⟨rfl, _, by rw [HE.out, ← List.append_assoc]; exact s1, hm.trans s2⟩
    · have t1 : decide (128 ≤ U64 cur) = true := by unfold U64; simp; omega
      have e1 := or128 (cur.setWidth 8)
      have e2 := shr7 cur
      obtain ⟨m, rfl⟩ : ∃ m, n = m + 1 := by
        cases n with
        | zero => have := h2.out; simp at this; omega
        | succ m => exact ⟨m, rfl⟩
      have HS : Hid (uintL x = (pre ++ [cur.setWidth 8 ||| 128#8]) ++ uintF m (cur >>> 7)) := Lib.hid (by
        have e : uintF (m + 1) cur = (cur.setWidth 8 ||| 128#8) :: uintF m (cur >>> 7) := if_neg hc
        rw [h1.out, List.append_assoc, e]; rfl)
      have HB : Hid ((cur >>> 7).toNat < 2 ^ (7 * m + 1)) := Lib.hid (by
        have := h2.out
        rw [BitVec.toNat_ushiftRight, Nat.shiftRight_eq_div_pow]
        rw [show 7 * (m + 1) + 1 = (7 * m + 1) + 7 from by omega, Nat.pow_add] at this
        exact Nat.div_lt_of_lt_mul (by omega))
      have HL : Hid ((pre ++ [cur.setWidth 8 ||| 128#8]).length + m = 9) := Lib.hid (by have := h3.out; simp; omega)
      have HM : Hid ((U64 (cur >>> 7)).toNat < (U64 cur).toNat) := Lib.hid (by
        unfold U64
        rw [BitVec.toNat_ushiftRight, Nat.shiftRight_eq_div_pow]
        simp; omega)
      have hlen : pre.length ≤ 9 := by have := h3.out; omega
      clear hc
      go_wp2_with (at_builtin; refine wp_app one8 b8_one rfl (.tmp 10) (.tmp 14) rfl B v' (bs ++ pre) rfl (he.row.alloc _) (some ⟨wr.heap.size, 0, none⟩) 1 1 [cur.setWidth 8 ||| 128#8] rfl rfl (wr.heap.size + 1) (rd1_new rfl) (by simp; omega) (by decide) (by have := he.ge; simp; omega) ?_; intro v4 w4 ho4 hb4 hg4 hv4; obtain ⟨A4, n4, c4, rfl⟩ := ow_slice ho4; have hk4 := bkGrown (he.blk.alloc _) hg4 (fun e => he.ne e.symm); have hc4 := hk4.cell 0; have hf4 := hk4.free 0; have hl4 := hk4.lt)
      obtain ⟨s1, s2⟩ := enc_step he ho4 hg4 hv4
      go_roundw
      case rel => exact ⟨m, pre ++ [cur.setWidth 8 ||| 128#8], cur >>> 7, _, rfl, HS, HB, HL, by rw [← List.append_assoc]; exact s1, hm.trans s2⟩
      case measure => simp only [Go.RowKit.intOf]; exact HM.out
end Go.Proofs.Ytbanbpphadgoiaa
/- What codec.Enc's Int, Raw, Words, Bytes do. Conditions: lengths. -/
namespace Go.Proofs.Ytbanbpphadgoiaa
set_option linter.unusedVariables false
set_option linter.unusedSimpArgs false
open Go.RowKit
def zigL (x : BitVec 64) : BitVec 64 := (x <<< 1) ^^^ (x.sshiftRight 63)
attribute [local go_sem] i64_u64 shlU64 sarI64 xorU64
set_option maxHeartbeats 400000
set_option maxRecDepth 100000
theorem shl1 (x : BitVec 64) : IntKind.u64.wrap (U64 x * 2) = U64 (x <<< 1) := by
  have h := shlU64 x 1
  rw [← h]; rfl
theorem zig_eq (x : BitVec 64) : bits .xor .u64 (U64 (x <<< 1)) (IntKind.u64.wrap (I64 x / 9223372036854775808)) = U64 (zigL x) := by
  rw [show (9223372036854775808 : Int) = 2 ^ 63 from by decide, sarI64, i64_u64, xorU64]
  rfl
theorem Rd.moved {α : Type} {f : α → Value} {w w' : World} {g : Nat} {v v' : Value} {A : Option Addr} {xs : List α} (h : Rd f w w.heap.size A xs) (hm : Moved w w' g v v') (hap : 0 < xs.length → ∀ a, A = some a → a.block ≠ g ∧ v.ownBlock ≠ some a.block) : Rd f w' w'.heap.size A xs := fun j hj => by
  obtain ⟨ad, e, hb, hc⟩ := h j hj
  obtain ⟨h1, h2⟩ := hap (by omega) ad e
  refine ⟨ad, e, Nat.lt_of_lt_of_le hb hm.size, ?_⟩
  rw [← hc]
  exact World.cell?_of_block (by rw [add_block]; exact hm.block _ hb h1 h2)
end Go.Proofs.Ytbanbpphadgoiaa
/- What codec.Enc's Words does. Conditions: lengths. -/
namespace Go.Proofs.Ytbanbpphadgoiaa
set_option linter.unusedVariables false
set_option linter.unusedSimpArgs false
open Go.RowKit
theorem step_app1 {P : Program} {α : Type} {f : α → Value} {t e : TypeId} {z : Value} {bytes : Nat} {w : World} {ops : Array Oper} {o : Oper} {a : Act} {K : Act → World → Prop} {Q : Exit → Act → World → Prop} {E : Prop} (one : One P t e z bytes) (hf : ∀ x, (f x).oneCell' = true) (hgd : o.guard = none) (s x : Operand)
    (ho : o.op = .call { callee := .builtin .append, args := #[s, x], argTypes := #[t, t] })
    (base : Nat) (v : Value) (xs : List α) (hs : a.eval s = v) (hown : Ow f e w base v xs)
    (h : Nat) (c : Nat) (y : α) (hx : a.eval x = .slice (some ⟨h, 0, none⟩) 1 c) (hc : w.cell? ⟨h, 0, none⟩ = some (f y))
    (h63 : xs.length + 1 ≤ 4294967296) (hby : bytes ≤ 32768) (hbase : base ≤ w.heap.size)
    (hk : ∀ A n c w', Ow f e w' base (.slice A n c) (xs ++ [y]) → w.grownBy w' v.ownBlock → ((Value.slice A n c).ownBlock = v.ownBlock ∨ (Value.slice A n c).ownBlock = some w.heap.size) → K (a.put o.dst (.slice A n c)) w') :
    if Region.wanted o (yielded ops a.tmps) = true then Oper.wp P o a w K Q else E := by
  obtain ⟨i, hi, hz, hsize, hbytes⟩ := one.info
  have hzs : z.cells.size = 1 := by rw [one.cell]; rfl
  have hbb : (xs.length + 1) * bytes ≤ 140737488355328 := by
    have := Nat.mul_le_mul h63 hby
    omega
  refine step_append_lies (w := w) hgd s x t ho base e i z 1 bytes one.under hi hz hsize hbytes hzs (by decide) v xs.length (xs.map f) hs hown ⟨h, 0, none⟩ 1 c [f y] hx rfl ?_ ?_ (by decide) (by simp only [maxLen]; omega) hbb hbase w.heap.size rfl ?_
  · intro j u hu
    have hj : j = 0 := by
      have := (List.getElem?_eq_some_iff.1 hu).1
      simp at this; omega
    subst hj
    simp at hu
    subst hu
    exact hc
  · intro u hu
    rw [List.mem_singleton] at hu
    subst hu
    exact hf y
  · intro g cap w' h2 h3 h4 _
    refine hk (some ⟨g, 0, none⟩) (xs.length + 1) cap w' ?_ h3 ?_
    · unfold Ow
      rw [List.length_append, List.length_singleton, List.map_append]
      exact h2
    · rcases h4 with h4 | h4
      · left; rw [h4]; rfl
      · right; rw [h4]; rfl
def u64w (x : BitVec 64) : Value := .int .u64 (U64 x)
def wordsL (ws : List (BitVec 64)) : List (BitVec 8) := uintL (BitVec.ofNat 64 ws.length) ++ (ws.map fun x => lowN x 8).flatten
set_option maxHeartbeats 800000
set_option maxRecDepth 100000
end Go.Proofs.Ytbanbpphadgoiaa
/- What turns one block alone. No conditions. -/
namespace Go.Proofs.Ytbanbpphadgoiaa
set_option linter.unusedVariables false
set_option linter.unusedSimpArgs false
open Go.RowKit
/-- Of what was there block g alone may have turned. -/
structure Only (w w' : World) (g : Nat) : Prop where
  os : w'.os = w.os
  tape : w'.tape = w.tape
  output : w'.output = w.output
  size : w.heap.size ≤ w'.heap.size
  block : ∀ k, k < w.heap.size → k ≠ g → w'.heap[k]? = w.heap[k]?
theorem Only.refl (w : World) (g : Nat) : Only w w g := ⟨rfl, rfl, rfl, Nat.le_refl _, fun _ _ _ => rfl⟩
theorem Only.trans {a b c : World} {g : Nat} (h : Only a b g) (k : Only b c g) : Only a c g :=
  ⟨k.os.trans h.os, k.tape.trans h.tape, k.output.trans h.output, Nat.le_trans h.size k.size, fun i hi h1 => (k.block i (Nat.lt_of_lt_of_le hi h.size) h1).trans (h.block i hi h1)⟩
theorem Only.of {a b : World} {g : Nat} (h : Below a.heap.size a b) : Only a b g := ⟨h.os, h.tape, h.output, h.size, fun k hk _ => h.block k hk⟩
theorem Only.set (w : World) (g i : Nat) (u : Value) : Only w (w.setCell ⟨g, i, none⟩ u) g := ⟨rfl, rfl, rfl, by simp [World.setCell], fun k _ hne => Below.heap_setCell _ _ _ _ hne⟩
theorem Only.drew {a b : World} {g : Nat} (h : Only a b g) : Only a b.drew g := ⟨h.os, h.tape, h.output, h.size, h.block⟩
theorem Only.below {a b : World} {g B : Nat} (h : Only a b g) (hB : B ≤ g) (hs : g < a.heap.size) : Below B a b := ⟨h.os, h.tape, h.output, h.size, fun k hk => h.block k (by omega) (by omega)⟩
theorem Rd.only {α : Type} {f : α → Value} {w w' : World} {g : Nat} {A : Option Addr} {xs : List α} (h : Rd f w w.heap.size A xs) (hm : Only w w' g) (hap : ∀ a, A = some a → a.block ≠ g) : Rd f w' w'.heap.size A xs := fun j hj => by
  obtain ⟨ad, e, hb, hc⟩ := h j hj
  refine ⟨ad, e, Nat.lt_of_lt_of_le hb hm.size, ?_⟩
  rw [← hc]
  exact World.cell?_of_block (by rw [add_block]; exact hm.block _ hb (hap ad e))
theorem Bk.onl {w w' : World} {g d : Nat} {E : TypeId} {cs : Array Value} (h : Bk w g E cs) (ho : Only w w' d) (hne : g ≠ d) : Bk w' g E cs := (ho.block g h.lt hne).trans h
end Go.Proofs.Ytbanbpphadgoiaa
/- bytes.Clone, and what codec.Of makes. Conditions: lengths. -/
namespace Go.Proofs.Ytbanbpphadgoiaa
set_option linter.unusedVariables false
set_option linter.unusedSimpArgs false
open Go.RowKit
theorem ow_addr {α : Type} {f : α → Value} {E : TypeId} {w : World} {base n c : Nat} {A : Option Addr} {xs : List α} (h : Ow f E w base (.slice A n c) xs) : ∀ a, A = some a → base ≤ a.block ∧ a.block < w.heap.size := by
  rintro a rfl
  rcases h.2 with ⟨e, _⟩ | ⟨g, cap, cur, e, hB, hh, _⟩
  · cases e
  · injection e with e1
    injection e1 with e1
    subst e1
    refine ⟨hB, ?_⟩
    rcases Nat.lt_or_ge g w.heap.size with hl | hl
    · exact hl
    · rw [Array.getElem?_eq_none hl] at hh; cases hh
def CloneP (bs : List (BitVec 8)) (w : World) (e : Ending) (w' : World) : Prop := ∃ A c, e = .returned (.slice A bs.length c) ∧ bs.length ≤ c ∧ Rd b8 w' w'.heap.size A bs ∧ Below w.heap.size w w' ∧ ∀ a, A = some a → w.heap.size ≤ a.block ∧ a.block < w'.heap.size
set_option maxHeartbeats 400000
set_option maxRecDepth 100000
theorem clone_c (bs : List (BitVec 8)) (A : Option Addr) (c : Nat) (w : World) (hr : Rd b8 w w.heap.size A bs) (hl : bs.length ≤ 1073741824) : Calls Try.prog 72 #[.slice A bs.length c] w (CloneP bs w) := by
  have hn := fun (a : Option Addr) (n c : Nat) (W : World) => Lib.run_eql_slice_nil (P := Try.prog) W 44 5 a n c 0 0 (by kernel_rfl)
  rcases A with _ | ad
  · have hb : bs = [] := by
      cases bs with
      | nil => rfl
      | cons x xs => obtain ⟨ad, e, _⟩ := hr 0 (by simp); cases e
    subst hb
    go_enter Try.func72, Try.ntmps72
    go_wp2
    go_ret
    exact ⟨none, 0, rfl, Nat.le_refl _, Rd.nil, (by repeat (first | with_reducible assumption | with_reducible exact Below.refl _ _ | with_reducible apply bdN | with_reducible apply Below.drew | with_reducible refine Below.alloc ?_ (by simp) _ | with_reducible refine Below.setCell ?_ (by simp) _)), fun a e => by cases e⟩
  · go_enter Try.func72, Try.ntmps72
    go_wp2_with (at_builtin; refine wp_app one8 b8_one rfl (.tmp 5) (.tmp 6) rfl w.heap.size _ [] rfl (ow_empty b8 5 w w.heap.size (Nat.le_refl _)) (some ad) bs.length c bs rfl rfl w.heap.size (hr.alloc (Nat.le_refl _) _) (by simp; omega) (by decide) (by simp) ?_; intro v4 w4 ho4 hb4 hg4 hv4)
    rw [List.nil_append] at ho4
    obtain ⟨A4, c4, rfl, hc4⟩ := ho4.form
    go_ret
    exact ⟨A4, c4, rfl, hc4, ho4.rd, (Gw.alloc w _).trans hb4, ow_addr ho4⟩
/-- Block g holds a reader of the bytes bs, in another block, with an error's number. -/
structure DecAt (w : World) (g : Nat) (bs : List (BitVec 8)) (err : Int) : Prop where
  ex : ∃ A c, Bk w g 123 #[.slice A bs.length c, .int .i64 err] ∧ bs.length ≤ c ∧ Rd b8 w w.heap.size A bs ∧ ∀ a, A = some a → a.block ≠ g
theorem of_c (bs : List (BitVec 8)) (A : Option Addr) (c : Nat) (w : World) (hr : Rd b8 w w.heap.size A bs) (hl : bs.length ≤ 1073741824) :
    Calls Try.prog 38 #[.slice A bs.length c] w fun e w' => ∃ g, e = .returned (.pointer (some ⟨g, 0, none⟩)) ∧ w.heap.size ≤ g ∧ g < w'.heap.size ∧ DecAt w' g bs 0 ∧ Below w.heap.size w w' := by
  have HC := Lib.hid (clone_c bs A c w hr hl)
  go_enter Try.func38, Try.ntmps38
  go_wp2_with fail
  refine Calls.mono HC.out ?_
  rintro e w1 ⟨A1, c1, rfl, hc1, hr1, hb1, ha1⟩
  go_wp2_with fail
  go_ret
  refine ⟨_, rfl, hb1.size, by simp, ⟨A1, c1, Bk.new w1 123 _, hc1, (hr1.alloc (Nat.le_refl _) _).more (by simp), fun a e => by have := (ha1 a e).2; omega⟩, hb1.trans ((Gw.alloc w1 _).mono hb1.size)⟩
end Go.Proofs.Ytbanbpphadgoiaa
