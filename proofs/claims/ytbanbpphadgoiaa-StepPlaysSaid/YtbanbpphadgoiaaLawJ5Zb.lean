/- The law StepPlays of layer 22 returns true for every argument. No conditions. -/
import Derived.Test.YtbanbpphadgoiaaZb11
namespace Go.Proofs.Ytbanbpphadgoiaa
set_option linter.unusedVariables false
set_option linter.unusedSimpArgs false
open Go.RowKit Go.Maps
set_option maxHeartbeats 16000000
set_option maxRecDepth 100000
theorem plays_walk (w : World) (A : Option Addr) (ws : List (BitVec 64)) (c : Nat) (_g : ws.length ≤ c) (_m : c ≤ maxLen) (hr : Rd u64v w w.heap.size A ws) (b : Int) (_w1 : (Lit.int .i64 b).wf = true) (t : Int) (_w2 : (Lit.int .i64 t).wf = true) (A2 : Option Addr) (roots : List Int) (c2 : Nat) (_g2 : roots.length ≤ c2) (_m2 : c2 ≤ maxLen) (hr2 : Rd inV w w.heap.size A2 roots ∧ ∀ x ∈ roots, (Lit.int .i64 x).wf = true) (words : Int) (_w3 : (Lit.int .i64 words).wf = true) (Al : Option Addr) (ls : List Int) (cl : Nat) (_g3 : ls.length ≤ cl) (_m3 : cl ≤ maxLen) (hr3 : Rd i8V w w.heap.size Al ls ∧ ∀ x ∈ ls, (Lit.int .i8 x).wf = true) :
    Calls Try.prog 3 #[.slice A ws.length c, .int .i64 b, .int .i64 t, .slice A2 roots.length c2, .int .i64 words, .slice Al ls.length cl] w (RetP (.bool true) w) := by
  by_cases h1 : 250 < ws.length ∨ 30 < roots.length ∨ 60 < ls.length ∨ (400 < words ∧ words ≤ 8192)
  · exact pl_lim w A ws c _g _m hr b _w1 t _w2 A2 roots c2 _g2 _m2 hr2 words _w3 Al ls cl _g3 _m3 hr3 h1
  · by_cases h3 : 400 < words
    · exact pl_d2 w A ws c _g _m hr b _w1 t _w2 A2 roots c2 _g2 _m2 hr2 words _w3 Al ls cl _g3 _m3 hr3 (by omega) (by omega) (by omega) h3 (by omega)
    · by_cases hz : copyC ws words.toNat (roots.map rootP) = none
      · exact pl_d6 w A ws c _g _m hr b _w1 t _w2 A2 roots c2 _g2 _m2 hr2 words _w3 Al ls cl _g3 _m3 hr3 (by omega) (by omega) (by omega) h3 hz
      · exact pl_d0 w A ws c _g _m hr b _w1 t _w2 A2 roots c2 _g2 _m2 hr2 words _w3 Al ls cl _g3 _m3 hr3 (by omega) (by omega) (by omega) h3 hz
end Go.Proofs.Ytbanbpphadgoiaa
namespace Go.Proofs.Ytbanbpphadgoiaa.stepPlays
open Go.ChangeShapes Go.WideShapes Go.ChangeAt Go.RowKit
open Go.ChangeMaps (open_string shut_string)
set_option linter.unusedVariables false
set_option maxRecDepth 100000 in
theorem lifted (os : Os) (started : os.Started) (H : Type) (enc : TypeId × Value → H) :
    ReturnsInHanded {} Try.checked os 3 .any (Rows.stepPlaysSpec.pre6 enc Try.prog Try.f3 Rows.stepPlaysRow.domain false) (Rows.stepPlaysSpec.post enc Try.prog Try.f3 false true false false) := by
  refine returnsInHanded_of_change (C := Try.checked) own started (by kernel_rfl) Try.func3
    (ChangeSpec.witness6 (enc := enc) (C := Try.checked) false ⟨#[], #[.slice none 0 0, .int .i64 0, .int .i64 0, .slice none 0 0, .int .i64 0, .slice none 0 0], []⟩ 8 (by kernel_rfl) (by kernel_rfl) (by kernel_rfl) (by kernel_rfl)) ?_
  intro W base args ds gs before hval0 hW hcnd _
  have hval : ∀ (j : Nat) t v, Try.f3.params[j]? = some t → args[j]? = some v → Value.okWide Try.prog W .any base t v := hval0
  have hW' := hW
  obtain ⟨p, q, hA0, hV, rfl, hfz, hnd⟩ := hW
  have hA : DataW.TrodAll enc Try.prog W 0 (fun _ => true) true Try.f3.params.toList args.toList ds p := hA0
  rw [Try.params3] at hA hval
  obtain ⟨v0, vs0, d0, ds0, p0, q0, hargs, rfl, rfl, h0, r0⟩ := trodAll_cons hA
  obtain ⟨v1, vs1, d1, ds1, p1, q1, rfl, rfl, rfl, h1, r1⟩ := trodAll_cons r0
  obtain ⟨v2, vs2, d2, ds2, p2, q2, rfl, rfl, rfl, h2, r2⟩ := trodAll_cons r1
  obtain ⟨v3, vs3, d3, ds3, p3, q3, rfl, rfl, rfl, h3, r3⟩ := trodAll_cons r2
  obtain ⟨v4, vs4, d4, ds4, p4, q4, rfl, rfl, rfl, h4, r4⟩ := trodAll_cons r3
  obtain ⟨v5, vs5, d5, ds5, p5, q5, rfl, rfl, rfl, h5, r5⟩ := trodAll_cons r4
  obtain ⟨rfl, rfl, rfl⟩ := trodAll_nil r5
  obtain rfl : args = #[v0, v1, v2, v3, v4, v5] := by cases args; simp_all
  obtain ⟨rfl, rfl⟩ := trodVars_none hV
  have k0 := h0
  have lt0 : ∀ x ∈ p0, x.block < W.heap.size := by obtain ⟨m, hm⟩ := k0; exact DataW.trod_lt m _ _ _ hm
  obtain ⟨A0, a0, c0, e0v, g0, m0, w0⟩ := open_words Try.underlying22 Try.underlying62 (by kernel_rfl) (hval 0 22 v0 rfl rfl) h0; subst e0v
  have k1 := h1
  have lt1 : ∀ x ∈ p1, x.block < W.heap.size := by obtain ⟨m, hm⟩ := k1; exact DataW.trod_lt m _ _ _ hm
  obtain ⟨a1, e1v, _, _, w1⟩ := open_int Try.underlying3 (hval 1 3 v1 rfl rfl) h1; subst e1v
  have k2 := h2
  have lt2 : ∀ x ∈ p2, x.block < W.heap.size := by obtain ⟨m, hm⟩ := k2; exact DataW.trod_lt m _ _ _ hm
  obtain ⟨a2, e2v, _, _, w2⟩ := open_int Try.underlying3 (hval 2 3 v2 rfl rfl) h2; subst e2v
  have k3 := h3
  have lt3 : ∀ x ∈ p3, x.block < W.heap.size := by obtain ⟨m, hm⟩ := k3; exact DataW.trod_lt m _ _ _ hm
  obtain ⟨A3, a3, c3, e3v, g3, m3, w3⟩ := open_intz Try.underlying23 Try.underlying3 (by kernel_rfl) (hval 3 23 v3 rfl rfl) h3; subst e3v
  have k4 := h4
  have lt4 : ∀ x ∈ p4, x.block < W.heap.size := by obtain ⟨m, hm⟩ := k4; exact DataW.trod_lt m _ _ _ hm
  obtain ⟨a4, e4v, _, _, w4⟩ := open_int Try.underlying3 (hval 4 3 v4 rfl rfl) h4; subst e4v
  have k5 := h5
  have lt5 : ∀ x ∈ p5, x.block < W.heap.size := by obtain ⟨m, hm⟩ := k5; exact DataW.trod_lt m _ _ _ hm
  obtain ⟨A5, a5, c5, e5v, g5, m5, w5⟩ := open_int8z Try.underlying24 Try.underlying42 (by kernel_rfl) (hval 5 24 v5 rfl rfl) h5; subst e5v
  clear hA0 hval0
  refine (plays_walk W A0 a0 c0 g0 m0 w0 a1 w1 a2 w2 A3 a3 c3 g3 m3 w3 a4 w4 A5 a5 c5 g5 m5 w5).mono fun e W' ⟨he, bel⟩ => ?_
  subst he
  exact ⟨_, rfl, _, _, _, [], _, [], hW', trodAll_mk1 (shut_bool Try.underlying4 _), (trodAll_cons_mk (Below.trod laidOut (by kernel_rfl) (of_decide_eq_true (by kernel_rfl)) k0 bel lt0) (trodAll_cons_mk (Below.trod laidOut (by kernel_rfl) (of_decide_eq_true (by kernel_rfl)) k1 bel lt1) (trodAll_cons_mk (Below.trod laidOut (by kernel_rfl) (of_decide_eq_true (by kernel_rfl)) k2 bel lt2) (trodAll_cons_mk (Below.trod laidOut (by kernel_rfl) (of_decide_eq_true (by kernel_rfl)) k3 bel lt3) (trodAll_cons_mk (Below.trod laidOut (by kernel_rfl) (of_decide_eq_true (by kernel_rfl)) k4 bel lt4) (trodAll_cons_mk (Below.trod laidOut (by kernel_rfl) (of_decide_eq_true (by kernel_rfl)) k5 bel lt5) trodAll_mk0)))))), rfl, bel.frame _, fun h => by cases h⟩
theorem over : Rows.stepPlaysRow.holds Try.pinned (OpenSpec.ofChange Rows.stepPlaysSpec) :=
  OpenClaim.holds_of_wide 3 Try.f3 rfl rfl rfl rfl rfl rfl rfl ⟨rfl, rfl, rfl, rfl, rfl⟩ rfl rfl rfl rfl rfl (by kernel_rfl) Try.func3 (by kernel_rfl)
    (of_decide_eq_true (by kernel_rfl)) (by unfold Func.isWrapper; first | (rw [if_pos (by decide +kernel)]; kernel_rfl) | (rw [if_neg (by decide +kernel)]; exact ⟨rfl, rfl⟩))
    (fun os started H enc _ => lifted os started H enc)
theorem proved : Rows.StepPlaysSaid := over
end Go.Proofs.Ytbanbpphadgoiaa.stepPlays
