/- The law BitsSigns of layer 1 returns true for every argument. No conditions. -/
import Derived.Test.YtbiejbecocdhdaaFrame
import Derived.Test.YtbiejbecocdhdaaKnown1
import Derived.Test.YtbiejbecocdhdaaBitsF
namespace Go.Proofs.Ytbiejbecocdhdaa
open Go.RowKit
attribute [local go_sem] i64_u64 beqI64 beqU64 shlU64 orU64
theorem tru {b : Bool} {w w' : World} (h : b = true) (hb : Below w.heap.size w w') : TruP (.bool true) w (.returned (.bool b)) w' := ⟨by rw [h], hb⟩
theorem pow62 (n : Int) (h1 : 1 ≤ n) (h2 : n ≤ 63) : (1 : Int) ≤ 2 ^ (n.toNat - 1) ∧ (2 : Int) ^ (n.toNat - 1) ≤ 4611686018427387904 := by
  have h : ∀ k : Fin 63, (1 : Int) ≤ 2 ^ k.val ∧ (2 : Int) ^ k.val ≤ 4611686018427387904 := by decide +kernel
  exact h ⟨n.toNat - 1, by omega⟩
theorem signs_lo (x : BitVec 64) (n : Int) (h1 : 1 ≤ n) (h2 : n ≤ 63) : wrap64 (-wrap64 (2 ^ (n.toNat - 1))) ≤ I64 (signB x n) := by
  have hr := (signB_range x n h1 h2).1
  obtain ⟨hp1, hp2⟩ := pow62 n h1 h2
  rw [show (n - 1).toNat = n.toNat - 1 from by omega] at hr
  unfold wrap64
  omega
theorem signs_hi (x : BitVec 64) (n : Int) (h1 : 1 ≤ n) (h2 : n ≤ 63) : I64 (signB x n) < wrap64 (2 ^ (n.toNat - 1)) := by
  have hr := (signB_range x n h1 h2).2
  obtain ⟨hp1, hp2⟩ := pow62 n h1 h2
  rw [show (n - 1).toNat = n.toNat - 1 from by omega] at hr
  unfold wrap64
  omega
set_option maxHeartbeats 400000
theorem signs_walk (a0 : Int) (w0 : (Lit.int .i64 a0).wf = true) (n : Int) (w1 : (Lit.int .i64 n).wf = true) (w : World) :
    Calls Try.prog 4 #[.int .i64 a0, .int .i64 n] w (TruP (.bool true) w) := by
  obtain ⟨hn1, hn2⟩ := wf64 w1
  obtain ⟨x, rfl⟩ : ∃ x, a0 = I64 x := ⟨_, wfi64 w0⟩
  clear w0 w1
  by_cases h : 1 ≤ n ∧ n ≤ 63
  · obtain ⟨h1, h2⟩ := h
    have hlo := signs_lo x n h1 h2
    have hhi := signs_hi x n h1 h2
    have hss := signB_signB x n n h1 (by omega) (by omega)
    have HS := Lib.hid hss; clear hss
    go_enter Try.func4, Try.ntmps4
    go_wp2_with (first | (go_at_call 10; refine (known_c _).mono ?_; rintro e w1 ⟨rfl, hb1⟩) | (go_at_call 16; refine (sign_c _ _ _).go.mono ?_; rintro e w' ⟨rfl, mm, rfl⟩) | (go_at_call 17; refine (rsign_c _ _ _).go.mono ?_; rintro e w' ⟨rfl, mm, rfl⟩) | (go_at_call 18; refine (narrow_c _ _ _).go.mono ?_; rintro e w' ⟨rfl, mm, rfl⟩) | (go_at_call 19; refine (fits_c _ _ _).go.mono ?_; rintro e w' ⟨rfl, mm, rfl⟩))
    go_ret
    exact tru (by rw [HS.out]; simp) (by first | exact hb1 | exact bdrewN hb1 _)
  · by_cases h64 : n = 64
    · subst h64
      have hf : (signB x 64 == x) = true := by rw [signB_64]; simp
      go_enter Try.func4, Try.ntmps4
      go_wp2_with (first | (go_at_call 10; refine (known_c _).mono ?_; rintro e w1 ⟨rfl, hb1⟩) | (go_at_call 16; refine (sign_c _ _ _).go.mono ?_; rintro e w' ⟨rfl, mm, rfl⟩) | (go_at_call 17; refine (rsign_c _ _ _).go.mono ?_; rintro e w' ⟨rfl, mm, rfl⟩) | (go_at_call 18; refine (narrow_c _ _ _).go.mono ?_; rintro e w' ⟨rfl, mm, rfl⟩) | (go_at_call 19; refine (fits_c _ _ _).go.mono ?_; rintro e w' ⟨rfl, mm, rfl⟩))
      go_ret
      exact tru rfl (by first | exact hb1 | exact bdrewN hb1 _)
    · have ho := signB_out x n (by omega)
      have hz : (I64 (signB x n) == 0) = true := by rw [ho]; decide +kernel
      have h64' : (n == 64) = false := by simpa using h64
      clear ho h64
      go_enter Try.func4, Try.ntmps4
      go_wp2_with (first | (go_at_call 10; refine (known_c _).mono ?_; rintro e w1 ⟨rfl, hb1⟩) | (go_at_call 16; refine (sign_c _ _ _).go.mono ?_; rintro e w' ⟨rfl, mm, rfl⟩) | (go_at_call 17; refine (rsign_c _ _ _).go.mono ?_; rintro e w' ⟨rfl, mm, rfl⟩) | (go_at_call 18; refine (narrow_c _ _ _).go.mono ?_; rintro e w' ⟨rfl, mm, rfl⟩) | (go_at_call 19; refine (fits_c _ _ _).go.mono ?_; rintro e w' ⟨rfl, mm, rfl⟩))
      all_goals try (exfalso; first | (apply h; omega) | (simp at h64'; omega))
      all_goals go_ret
      all_goals exact tru (by simp; try (simp at h64'; omega)) (by first | exact hb1 | exact bdrewN hb1 _)
end Go.Proofs.Ytbiejbecocdhdaa
namespace Go.Proofs.Ytbiejbecocdhdaa.bitsSigns
open Go.ChangeShapes Go.WideShapes Go.ChangeAt Go.RowKit
open Go.ChangeMaps (open_string shut_string)
set_option linter.unusedVariables false
set_option maxRecDepth 100000 in
theorem lifted (os : Os) (started : os.Started) (H : Type) (enc : TypeId × Value → H) :
    ReturnsInHanded {} Try.checked os 4 .any (Rows.bitsSignsSpec.pre6 enc Try.prog Try.f4 Rows.bitsSignsRow.domain false) (Rows.bitsSignsSpec.post enc Try.prog Try.f4 false true false false) := by
  refine returnsInHanded_of_change (C := Try.checked) own started (by kernel_rfl) Try.func4
    (ChangeSpec.witness6 (enc := enc) (C := Try.checked) false ⟨#[], #[.int .i64 0, .int .i64 0], []⟩ 8 (by kernel_rfl) (by kernel_rfl) (by kernel_rfl) (by kernel_rfl)) ?_
  intro W base args ds gs before hval0 hW hcnd _
  have hval : ∀ (j : Nat) t v, Try.f4.params[j]? = some t → args[j]? = some v → Value.okWide Try.prog W .any base t v := hval0
  have hW' := hW
  obtain ⟨p, q, hA0, hV, rfl, hfz, hnd⟩ := hW
  have hA : DataW.TrodAll enc Try.prog W 0 (fun _ => true) true Try.f4.params.toList args.toList ds p := hA0
  rw [Try.params4] at hA hval
  obtain ⟨v0, vs0, d0, ds0, p0, q0, hargs, rfl, rfl, h0, r0⟩ := trodAll_cons hA
  obtain ⟨v1, vs1, d1, ds1, p1, q1, rfl, rfl, rfl, h1, r1⟩ := trodAll_cons r0
  obtain ⟨rfl, rfl, rfl⟩ := trodAll_nil r1
  obtain rfl : args = #[v0, v1] := by cases args; simp_all
  obtain ⟨rfl, rfl⟩ := trodVars_none hV
  have k0 := h0
  have lt0 : ∀ x ∈ p0, x.block < W.heap.size := by obtain ⟨m, hm⟩ := k0; exact DataW.trod_lt m _ _ _ hm
  obtain ⟨a0, e0v, _, _, w0⟩ := open_int Try.underlying2 (hval 0 2 v0 rfl rfl) h0; subst e0v
  have k1 := h1
  have lt1 : ∀ x ∈ p1, x.block < W.heap.size := by obtain ⟨m, hm⟩ := k1; exact DataW.trod_lt m _ _ _ hm
  obtain ⟨a1, e1v, _, _, w1⟩ := open_int Try.underlying3 (hval 1 3 v1 rfl rfl) h1; subst e1v
  clear hA0 hval0
  refine (signs_walk a0 w0 a1 w1 W).mono fun e W' ⟨he, bel⟩ => ?_
  subst he
  exact ⟨_, rfl, _, _, _, [], _, [], hW', trodAll_mk1 (shut_bool Try.underlying4 _), (trodAll_cons_mk (Below.trod laidOut (by kernel_rfl) (of_decide_eq_true (by kernel_rfl)) k0 bel lt0) (trodAll_cons_mk (Below.trod laidOut (by kernel_rfl) (of_decide_eq_true (by kernel_rfl)) k1 bel lt1) trodAll_mk0)), rfl, bel.frame _, fun h => by cases h⟩
theorem over : Rows.bitsSignsRow.holds Try.pinned (OpenSpec.ofChange Rows.bitsSignsSpec) :=
  OpenClaim.holds_of_wide 4 Try.f4 rfl rfl rfl rfl rfl rfl rfl ⟨rfl, rfl, rfl, rfl, rfl⟩ rfl rfl rfl rfl rfl (by kernel_rfl) Try.func4 (by kernel_rfl)
    (of_decide_eq_true (by kernel_rfl)) (by unfold Func.isWrapper; first | (rw [if_pos (by decide +kernel)]; kernel_rfl) | (rw [if_neg (by decide +kernel)]; exact ⟨rfl, rfl⟩))
    (fun os started H enc _ => lifted os started H enc)
theorem proved : Rows.BitsSignsSaid := over
end Go.Proofs.Ytbiejbecocdhdaa.bitsSigns
