/- The law SumsSeal of layer 2 returns true for every argument. No conditions. -/
import Derived.Test.YtodicffceholkaaKnown2
import Derived.Test.YtodicffceholkaaStr
import Derived.Test.YtodicffceholkaaFrame
namespace Go.Proofs.Ytodicffceholkaa
open Go.RowKit
theorem seal_n (xs : List (BitVec 8)) (A : Option Addr) (c n : Nat) (w : World) (hn : n = xs.length) (hr : Rd b8 w w.heap.size A xs) (hl : xs.length ≤ 1073741824) :
    Calls Try.prog 19 #[.slice A n c] w fun e w' => ∃ A' c', e = .returned (.slice A' (n + 4) c') ∧ n + 4 ≤ c' ∧ Rd b8 w' w'.heap.size A' (sealC xs) ∧ Below w.heap.size w w' := by
  subst hn
  refine (seal_c xs A c w hr hl).mono ?_
  rintro e w' ⟨A', c', rfl, hc, ho, hb⟩
  have hn : (sealC xs).length = xs.length + 4 := by simp [sealC, tailL]
  rw [hn] at hc ⊢
  have hr' : Rd b8 w' w'.heap.size A' (sealC xs) := ho.rd
  exact ⟨A', c', rfl, hc, hr', hb⟩
theorem heldL {A A2 A3 : Option Addr} {bs : List (BitVec 8)} {c c2 : Nat} {w w3 W1 W2 : World} (h : (convert 23 9 (.slice A bs.length c)).run Try.prog W1 = .ok (.string (strB bs)) W1 ∧ (convert 23 9 (.slice A2 bs.length c2)).run Try.prog W1 = .ok (.string (strB bs)) W1 ∧ Rd b8 W1 w.heap.size A bs ∧ Rd b8 W1 w3.heap.size A2 (sealC bs) ∧ Rd b8 W1 w3.heap.size A3 (sealC (sealC bs)) ∧ w.heap.size ≤ w3.heap.size ∧ w3.heap.size ≤ W1.heap.size ∧ Below w.heap.size w W1) (hb : Below W1.heap.size W1 W2) : (convert 23 9 (.slice A bs.length c)).run Try.prog W2 = .ok (.string (strB bs)) W2 ∧ (convert 23 9 (.slice A2 bs.length c2)).run Try.prog W2 = .ok (.string (strB bs)) W2 ∧ Rd b8 W2 w.heap.size A bs ∧ Rd b8 W2 w3.heap.size A2 (sealC bs) ∧ Rd b8 W2 w3.heap.size A3 (sealC (sealC bs)) ∧ w.heap.size ≤ w3.heap.size ∧ w3.heap.size ≤ W2.heap.size ∧ Below w.heap.size w W2 := by
  obtain ⟨_, _, h3, h4, h5, h6, h7, h8⟩ := h
  have r1 := h3.below (hb.mono (Nat.le_trans h6 h7))
  have r2 := h4.below (hb.mono h7)
  have r3 := h5.below (hb.mono h7)
  have r4 : Rd b8 W2 w3.heap.size A2 bs := by
    have := r2.take bs.length
    simpa [sealC] using this
  exact ⟨str_conv bs A c _ W2 r1, str_conv bs A2 c2 _ W2 r4, r1, r2, r3, h6, Nat.le_trans h7 hb.size, h8.trans (hb.mono (Nat.le_trans h6 h7))⟩
theorem heldL2 {A A2 A3 : Option Addr} {bs : List (BitVec 8)} {c c2 : Nat} {w w3 W1 : World} (h : (convert 23 9 (.slice A bs.length c)).run Try.prog W1 = .ok (.string (strB bs)) W1 ∧ (convert 23 9 (.slice A2 bs.length c2)).run Try.prog W1 = .ok (.string (strB bs)) W1 ∧ Rd b8 W1 w.heap.size A bs ∧ Rd b8 W1 w3.heap.size A2 (sealC bs) ∧ Rd b8 W1 w3.heap.size A3 (sealC (sealC bs)) ∧ w.heap.size ≤ w3.heap.size ∧ w3.heap.size ≤ W1.heap.size ∧ Below w.heap.size w W1) : Rd b8 W1 W1.heap.size A2 (sealC bs) := h.2.2.2.1.more h.2.2.2.2.2.2.1
theorem heldL3 {A A2 A3 : Option Addr} {bs : List (BitVec 8)} {c c2 : Nat} {w w3 W1 : World} (h : (convert 23 9 (.slice A bs.length c)).run Try.prog W1 = .ok (.string (strB bs)) W1 ∧ (convert 23 9 (.slice A2 bs.length c2)).run Try.prog W1 = .ok (.string (strB bs)) W1 ∧ Rd b8 W1 w.heap.size A bs ∧ Rd b8 W1 w3.heap.size A2 (sealC bs) ∧ Rd b8 W1 w3.heap.size A3 (sealC (sealC bs)) ∧ w.heap.size ≤ w3.heap.size ∧ w3.heap.size ≤ W1.heap.size ∧ Below w.heap.size w W1) : Rd b8 W1 W1.heap.size A3 (sealC (sealC bs)) := h.2.2.2.2.1.more h.2.2.2.2.2.2.1
set_option maxHeartbeats 800000
set_option maxRecDepth 100000
theorem seal_walk (w : World) (A : Option Addr) (bs : List (BitVec 8)) (c : Nat) (hc : bs.length ≤ c) (_hm : c ≤ maxLen) (hr : Rd b8 w w.heap.size A bs) :
    Calls Try.prog 5 #[.slice A bs.length c] w (TruP (.bool true) w) := by
  by_cases hl : bs.length ≤ 500
  · go_enter Try.func5, Try.ntmps5
    go_wp2_with fail
    refine (known_c _).mono ?_
    rintro e w1 ⟨rfl, hb1⟩
    go_wp2_with fail
    refine (seal_n bs A c _ _ rfl ((hr.below hb1).more hb1.size) (by omega)).mono ?_
    rintro e w2 ⟨A2, c2, rfl, hc2, hr2, hb2⟩
    have hB2 : Below w.heap.size w w2 := hb1.trans (hb2.mono hb1.size)
    clear hb1 hb2
    go_wp2_with fail
    refine (seal_n (sealC bs) A2 c2 _ _ (by simp [sealC, tailL]) hr2 (by simp [sealC, tailL]; omega)).mono ?_
    rintro e w3 ⟨A3, c3, rfl, hc3, hr3, hb3⟩
    have hB3 : Below w.heap.size w w3 := hB2.trans (hb3.mono hB2.size)
    have hr2' : Rd b8 w3 w3.heap.size A2 (sealC bs) := (hr2.below hb3).more hb3.size
    have hrt : Rd b8 w3 w3.heap.size A2 bs := by
      have := hr2'.take bs.length
      simpa [sealC] using this
    have hS : (convert 23 9 (.slice A bs.length c)).run Try.prog w3 = .ok (.string (strB bs)) w3 ∧ (convert 23 9 (.slice A2 bs.length c2)).run Try.prog w3 = .ok (.string (strB bs)) w3 ∧ Rd b8 w3 w.heap.size A bs ∧ Rd b8 w3 w3.heap.size A2 (sealC bs) ∧ Rd b8 w3 w3.heap.size A3 (sealC (sealC bs)) ∧ w.heap.size ≤ w3.heap.size ∧ w3.heap.size ≤ w3.heap.size ∧ Below w.heap.size w w3 := ⟨str_conv bs A c _ w3 (hr.below hB3), str_conv bs A2 c2 _ w3 hrt, hr.below hB3, hr2', hr3, hB3.size, Nat.le_refl _, hB3⟩
    clear hr2 hB2 hb3 hrt hr2' hr3 hB3 hr
    have hq1 : (0 : Int) ≤ (bs.length : Int) := by omega
    have hq2 : (bs.length : Int) ≤ (c2 : Int) := by omega
    have hq3 : (bs.length : Int) ≤ ((bs.length + 4 : Nat) : Int) := by omega
    have hw4 : IntKind.i64.wrap ((bs.length : Int) + 4) = (bs.length : Int) + 4 := by rw [IntKind.wrap]; simp [IntKind.bits, IntKind.signed]; omega
    have hw8 : IntKind.i64.wrap ((bs.length : Int) + 8) = (bs.length : Int) + 8 := by rw [IntKind.wrap]; simp [IntKind.bits, IntKind.signed]; omega
    have ht8 : ((bs.length : Int) + 4 + 4 == (bs.length : Int) + 8) = true := by simp; omega
    have hq4 : (bs.length : Int) ≤ (bs.length : Int) + 4 := by omega
    go_wp2_with fail
    have k1 : ∀ w' : World, ((convert 23 9 (.slice A bs.length c)).run Try.prog w' = .ok (.string (strB bs)) w' ∧ (convert 23 9 (.slice A2 bs.length c2)).run Try.prog w' = .ok (.string (strB bs)) w' ∧ Rd b8 w' w.heap.size A bs ∧ Rd b8 w' w3.heap.size A2 (sealC bs) ∧ Rd b8 w' w3.heap.size A3 (sealC (sealC bs)) ∧ w.heap.size ≤ w3.heap.size ∧ w3.heap.size ≤ w'.heap.size ∧ Below w.heap.size w w') → Calls Try.prog 21 #[.slice A2 (bs.length + 4) c2] w' (RetP (.bool true) w') := fun w' h => right_seal bs A2 c2 _ w' (heldL2 h) rfl hc2 (by omega)
    have k2 : ∀ w' : World, ((convert 23 9 (.slice A bs.length c)).run Try.prog w' = .ok (.string (strB bs)) w' ∧ (convert 23 9 (.slice A2 bs.length c2)).run Try.prog w' = .ok (.string (strB bs)) w' ∧ Rd b8 w' w.heap.size A bs ∧ Rd b8 w' w3.heap.size A2 (sealC bs) ∧ Rd b8 w' w3.heap.size A3 (sealC (sealC bs)) ∧ w.heap.size ≤ w3.heap.size ∧ w3.heap.size ≤ w'.heap.size ∧ Below w.heap.size w w') → Calls Try.prog 21 #[.slice A3 (bs.length + 4 + 4) c3] w' (RetP (.bool true) w') := fun w' h => right_seal (sealC bs) A3 c3 _ w' (heldL3 h) (by simp [sealC, tailL]) hc3 (by simp [sealC, tailL]; omega)
    have K1 := Lib.hid k1
    have K2 := Lib.hid k2
    clear k1 k2
    go_region_held3 (fun w' => (convert 23 9 (.slice A bs.length c)).run Try.prog w' = .ok (.string (strB bs)) w' ∧ (convert 23 9 (.slice A2 bs.length c2)).run Try.prog w' = .ok (.string (strB bs)) w' ∧ Rd b8 w' w.heap.size A bs ∧ Rd b8 w' w3.heap.size A2 (sealC bs) ∧ Rd b8 w' w3.heap.size A3 (sealC (sealC bs)) ∧ w.heap.size ≤ w3.heap.size ∧ w3.heap.size ≤ w'.heap.size ∧ Below w.heap.size w w')
      (first
        | with_reducible assumption
        | with_reducible exact heldL hS (Below.drew (Below.refl _ _))
        | exact heldL (heldL hS (Below.drew (Below.refl _ _))) hb5
        | exact heldL (heldL (heldL hS (Below.drew (Below.refl _ _))) hb5) hb6
        )
      (first
        | (go_at_call 21; refine Calls.mono (K2.out w5 (heldL (heldL hS (Below.drew (Below.refl _ _))) hb5)) ?_; rintro e w6 ⟨rfl, hb6⟩)
        | (go_at_call 21; refine Calls.mono (K1.out w3.drew (heldL hS (Below.drew (Below.refl _ _)))) ?_; rintro e w5 ⟨rfl, hb5⟩))
    all_goals
      go_wp2_with fail
      go_ret
      exact ⟨rfl, (heldL (heldL (heldL hS (Below.drew (Below.refl _ _))) hb5) hb6).2.2.2.2.2.2.2⟩
  · go_enter Try.func5, Try.ntmps5
    go_wp2_with fail
    refine (known_c _).mono ?_
    rintro e w1 ⟨rfl, hb1⟩
    go_wp2_with fail
    go_ret
    exact ⟨rfl, hb1⟩
end Go.Proofs.Ytodicffceholkaa
namespace Go.Proofs.Ytodicffceholkaa.sumsSeal
open Go.ChangeShapes Go.WideShapes Go.ChangeAt Go.RowKit
open Go.ChangeMaps (open_string shut_string)
set_option linter.unusedVariables false
set_option maxRecDepth 100000 in
theorem lifted (os : Os) (started : os.Started) (H : Type) (enc : TypeId × Value → H) :
    ReturnsInHanded {} Try.checked os 5 .any (Rows.sumsSealSpec.pre6 enc Try.prog Try.f5 Rows.sumsSealRow.domain false) (Rows.sumsSealSpec.post enc Try.prog Try.f5 false true false false) := by
  refine returnsInHanded_of_change (C := Try.checked) own started (by kernel_rfl) Try.func5
    (ChangeSpec.witness6 (enc := enc) (C := Try.checked) false ⟨#[], #[.slice none 0 0], []⟩ 8 (by kernel_rfl) (by kernel_rfl) (by kernel_rfl) (by kernel_rfl)) ?_
  intro W base args ds gs before hval0 hW hcnd _
  have hval : ∀ (j : Nat) t v, Try.f5.params[j]? = some t → args[j]? = some v → Value.okWide Try.prog W .any base t v := hval0
  have hW' := hW
  obtain ⟨p, q, hA0, hV, rfl, hfz, hnd⟩ := hW
  have hA : DataW.TrodAll enc Try.prog W 0 (fun _ => true) true Try.f5.params.toList args.toList ds p := hA0
  rw [Try.params5] at hA hval
  obtain ⟨v0, vs0, d0, ds0, p0, q0, hargs, rfl, rfl, h0, r0⟩ := trodAll_cons hA
  obtain ⟨rfl, rfl, rfl⟩ := trodAll_nil r0
  obtain rfl : args = #[v0] := by cases args; simp_all
  obtain ⟨rfl, rfl⟩ := trodVars_none hV
  have k0 := h0
  have lt0 : ∀ x ∈ p0, x.block < W.heap.size := by obtain ⟨m, hm⟩ := k0; exact DataW.trod_lt m _ _ _ hm
  obtain ⟨A0, a0, c0, e0v, g0, m0, w0⟩ := open_bytes Try.underlying23 Try.underlying5 (by kernel_rfl) (hval 0 23 v0 rfl rfl) h0; subst e0v
  clear hA0 hval0
  refine (seal_walk W A0 a0 c0 g0 m0 w0).mono fun e W' ⟨he, bel⟩ => ?_
  subst he
  exact ⟨_, rfl, _, _, _, [], _, [], hW', trodAll_mk1 (shut_bool Try.underlying4 _), (trodAll_cons_mk (Below.trod laidOut (by kernel_rfl) (of_decide_eq_true (by kernel_rfl)) k0 bel lt0) trodAll_mk0), rfl, bel.frame _, fun h => by cases h⟩
theorem over : Rows.sumsSealRow.holds Try.pinned (OpenSpec.ofChange Rows.sumsSealSpec) :=
  OpenClaim.holds_of_wide 5 Try.f5 rfl rfl rfl rfl rfl rfl rfl ⟨rfl, rfl, rfl, rfl, rfl⟩ rfl rfl rfl rfl rfl (by kernel_rfl) Try.func5 (by kernel_rfl)
    (of_decide_eq_true (by kernel_rfl)) (by unfold Func.isWrapper; first | (rw [if_pos (by decide +kernel)]; kernel_rfl) | (rw [if_neg (by decide +kernel)]; exact ⟨rfl, rfl⟩))
    (fun os started H enc _ => lifted os started H enc)
theorem proved : Rows.SumsSealSaid := over
end Go.Proofs.Ytodicffceholkaa.sumsSeal
