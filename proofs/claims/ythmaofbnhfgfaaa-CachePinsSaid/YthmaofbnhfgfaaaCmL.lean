/- key.Sorted of at most one key; cache.Cache's Dirty where at most one page is dirty. Conditions: lengths. -/
import Derived.Test.YthmaofbnhfgfaaaCmH
import Derived.Test.YthmaofbnhfgfaaaKyB
namespace Go.Proofs.Ythmaofbnhfgfaaa
set_option linter.unusedVariables false
set_option linter.unusedSimpArgs false
open Go.RowKit Go.Maps
set_option maxRecDepth 100000
set_option maxHeartbeats 4000000
theorem cell_ltK {w : World} {a : Addr} {v : Value} (h : w.cell? a = some v) : a.block < w.heap.size := by
  by_cases hl : a.block < w.heap.size
  · exact hl
  · unfold World.cell? at h; rw [Array.getElem?_eq_none (by omega)] at h; cases h
theorem cloneK_c (w : World) (A : Option Addr) (n c : Nat) (l : List (Int × Int)) (hn : n = l.length) (hr : RdK w A l) (hA : A = none → l = []) (hl : l.length ≤ 100000) :
    Calls Try.prog 25 #[.slice A n c] w fun e w' => ∃ v, e = .returned v ∧ KR w' w.heap.size v l ∧ Below w.heap.size w w' := by
  have HN := Lib.hid hn
  have HL := Lib.hid (And.intro hr hl)
  cases A with
  | none =>
    have h0 := hA rfl
    subst h0
    have h1 : n = 0 := hn
    subst h1
    clear hn hr hl hA
    have heq : ∀ W, (binOp .eql 41 (.slice none 0 c) (.slice none 0 0)).run Try.prog W = .ok (.bool true) W := fun W => Lib.run_eql_slice_nil W _ _ none 0 c 0 0 Try.underlying41
    go_enter Try.func25, Try.ntmps25
    go_wp2_with fail
    go_ret
    exact ⟨_, rfl, KR.nil _ _, Below.refl _ _⟩
  | some ad =>
    clear hn hr hl hA
    have heq : ∀ W, (binOp .eql 41 (.slice (some ad) n c) (.slice none 0 0)).run Try.prog W = .ok (.bool false) W := fun W => Lib.run_eql_slice_nil W _ _ (some ad) n c 0 0 Try.underlying41
    go_enter Try.func25, Try.ntmps25
    go_wp2_with (at_builtin; refine wp_appK rfl (.tmp 5) (.tmp 6) rfl rfl (KR.empty _ w.heap.size w.heap.size (Nat.le_refl _) (Bk.new w 29 #[])) (some ad) n c l rfl HN.out (fun j u hu => by obtain ⟨a, e, hc⟩ := HL.out.1 j u hu; exact ⟨a, e, ((Gw.alloc w _).cell (p := a.add j) (cell_ltK hc)).trans hc⟩) (by have := HL.out.2; simp only [List.length_nil]; omega) (by simp) ?_; intro v1 w1 h1 hb1 _ _; have H1 := Lib.hid (And.intro h1 hb1); clear h1 hb1)
    go_ret
    refine ⟨_, rfl, ?_, (Gw.alloc w _).trans H1.out.2⟩
    have := H1.out.1
    rw [List.nil_append] at this
    exact this
theorem ins0_c (w : World) (A : Option Addr) (c : Nat) (v : Value) : Calls Try.prog 32 #[.slice A 0 c, .int .i64 0, .int .i64 0, v] w fun e w' => e = .returned (.tuple #[]) ∧ w' = w := by
  go_enter Try.func32, Try.ntmps32
  go_wp2
  refine wp_loop_once ?_
  go_wp2
  go_end0
  exact ⟨rfl, rfl⟩
theorem pdq0_c (w : World) (A : Option Addr) (c : Nat) (k : Int) (v : Value) : Calls Try.prog 28 #[.slice A 0 c, .int .i64 0, .int .i64 0, .int .i64 k, v] w fun e w' => e = .returned (.tuple #[]) ∧ w' = w := by
  go_enter Try.func28, Try.ntmps28
  go_wp2
  refine wp_loop_once ?_
  go_wp2_with fail
  refine Calls.mono (ins0_c _ _ _ _) ?_
  rintro e w' ⟨rfl, rfl⟩
  go_wp2_with fail
  first | go_end0 | refine bodyPost_ret (v := .tuple #[]) (by simp [results, Try.results28, go_sem]) rfl ?_
  exact ⟨rfl, rfl⟩
theorem len0_c (w : World) : Calls Try.prog 29 #[.int .u64 0] w fun e w' => ∃ k : Int, e = .returned (.int .i64 k) ∧ w' = w := by
  go_enter Try.func29, Try.ntmps29
  go_wp2
  go_ret
  exact ⟨_, rfl, rfl⟩
theorem sort0_c (w : World) (A : Option Addr) (c : Nat) (v : Value) : Calls Try.prog 26 #[.slice A 0 c, v] w fun e w' => e = .returned (.tuple #[]) ∧ w' = w := by
  go_enter Try.func26, Try.ntmps26
  go_wp2_with fail
  refine Calls.mono (len0_c _) ?_
  rintro e w' ⟨k, rfl, rfl⟩
  go_wp2_with fail
  refine Calls.mono (pdq0_c _ _ _ _ _) ?_
  rintro e w' ⟨rfl, rfl⟩
  go_wp2_with fail
  go_end0
  exact ⟨rfl, rfl⟩
theorem sorted0_c (w : World) (A : Option Addr) (c : Nat) (l : List (Int × Int)) (hn : 0 = l.length) (hr : RdK w A l) (hA : A = none → l = []) : Calls Try.prog 24 #[.slice A 0 c] w fun e w' => ∃ A2 c2, e = .returned (.slice A2 0 c2) ∧ Below w.heap.size w w' := by
  have HC := Lib.hid (cloneK_c w A 0 c l hn hr hA (by omega))
  have HN := Lib.hid hn
  clear hn hr hA
  go_enter Try.func24, Try.ntmps24
  go_wp2_with fail
  refine Calls.mono HC.out ?_
  rintro e w2 ⟨v, rfl, hk, b2⟩
  obtain ⟨A2, c2, rfl, _, _⟩ := hk.slice
  rw [← HN.out]
  have HB := Lib.hid b2
  clear hk b2 HC
  go_wp2_with fail
  refine Calls.mono (sort0_c _ _ _ _) ?_
  rintro e w' ⟨rfl, rfl⟩
  go_wp2_with fail
  go_ret
  exact ⟨_, _, rfl, HB.out⟩
theorem ins1_c (w : World) (A : Option Addr) (c : Nat) (v : Value) : Calls Try.prog 32 #[.slice A 1 c, .int .i64 0, .int .i64 1, v] w fun e w' => e = .returned (.tuple #[]) ∧ w' = w := by
  go_enter Try.func32, Try.ntmps32
  go_wp2
  refine wp_loop_once ?_
  go_wp2
  go_end0
  exact ⟨rfl, rfl⟩
theorem pdq1_c (w : World) (A : Option Addr) (c : Nat) (k : Int) (v : Value) : Calls Try.prog 28 #[.slice A 1 c, .int .i64 0, .int .i64 1, .int .i64 k, v] w fun e w' => e = .returned (.tuple #[]) ∧ w' = w := by
  go_enter Try.func28, Try.ntmps28
  go_wp2
  refine wp_loop_once ?_
  go_wp2_with fail
  refine Calls.mono (ins1_c _ _ _ _) ?_
  rintro e w' ⟨rfl, rfl⟩
  go_wp2_with fail
  first | go_end0 | refine bodyPost_ret (v := .tuple #[]) (by simp [results, Try.results28, go_sem]) rfl ?_
  exact ⟨rfl, rfl⟩
theorem len1_c (w : World) : Calls Try.prog 29 #[.int .u64 1] w fun e w' => ∃ k : Int, e = .returned (.int .i64 k) ∧ w' = w := by
  go_enter Try.func29, Try.ntmps29
  go_wp2
  go_ret
  exact ⟨_, rfl, rfl⟩
theorem sort1_c (w : World) (A : Option Addr) (c : Nat) (v : Value) : Calls Try.prog 26 #[.slice A 1 c, v] w fun e w' => e = .returned (.tuple #[]) ∧ w' = w := by
  go_enter Try.func26, Try.ntmps26
  go_wp2_with fail
  refine Calls.mono (len1_c _) ?_
  rintro e w' ⟨k, rfl, rfl⟩
  go_wp2_with fail
  refine Calls.mono (pdq1_c _ _ _ _ _) ?_
  rintro e w' ⟨rfl, rfl⟩
  go_wp2_with fail
  go_end0
  exact ⟨rfl, rfl⟩
theorem sorted1_c (w : World) (A : Option Addr) (c : Nat) (l : List (Int × Int)) (hn : 1 = l.length) (hr : RdK w A l) (hA : A = none → l = []) : Calls Try.prog 24 #[.slice A 1 c] w fun e w' => ∃ A2 c2, e = .returned (.slice A2 1 c2) ∧ Below w.heap.size w w' := by
  have HC := Lib.hid (cloneK_c w A 1 c l hn hr hA (by omega))
  have HN := Lib.hid hn
  clear hn hr hA
  go_enter Try.func24, Try.ntmps24
  go_wp2_with fail
  refine Calls.mono HC.out ?_
  rintro e w2 ⟨v, rfl, hk, b2⟩
  obtain ⟨A2, c2, rfl, _, _⟩ := hk.slice
  rw [← HN.out]
  have HB := Lib.hid b2
  clear hk b2 HC
  go_wp2_with fail
  refine Calls.mono (sort1_c _ _ _ _) ?_
  rintro e w' ⟨rfl, rfl⟩
  go_wp2_with fail
  go_ret
  exact ⟨_, _, rfl, HB.out⟩
end Go.Proofs.Ythmaofbnhfgfaaa
