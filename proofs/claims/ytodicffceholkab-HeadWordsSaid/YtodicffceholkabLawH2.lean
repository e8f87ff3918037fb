/- The law HeadWords of layer 14 returns true for every argument. No conditions. -/
import Derived.Test.YtodicffceholkabHeadF
import Derived.Deep.RegionHeld3
namespace Go.Proofs.Ytodicffceholkab
open Go.RowKit
attribute [local go_sem] beqU64
theorem held8 {w W1 w2 : World} {g1 g2 : Nat} {p b t : Int} {m : Bool} (h : W1.cell? ⟨g1, 0, none⟩ = some (.int .i64 p) ∧ W1.cell? ⟨g1, 1, none⟩ = some (.int .i64 b) ∧ W1.cell? ⟨g1, 2, none⟩ = some (.bool m) ∧ W1.cell? ⟨g1, 3, none⟩ = some (.int .i64 t) ∧ W1.cell? ⟨g2, 0, none⟩ = some (.int .i64 p) ∧ W1.cell? ⟨g2, 1, none⟩ = some (.int .i64 b) ∧ W1.cell? ⟨g2, 2, none⟩ = some (.bool m) ∧ W1.cell? ⟨g2, 3, none⟩ = some (.int .i64 t) ∧ g1 < W1.heap.size ∧ g2 < W1.heap.size ∧ Below w.heap.size w W1) (hb : Below W1.heap.size W1 w2) : w2.cell? ⟨g1, 0, none⟩ = some (.int .i64 p) ∧ w2.cell? ⟨g1, 1, none⟩ = some (.int .i64 b) ∧ w2.cell? ⟨g1, 2, none⟩ = some (.bool m) ∧ w2.cell? ⟨g1, 3, none⟩ = some (.int .i64 t) ∧ w2.cell? ⟨g2, 0, none⟩ = some (.int .i64 p) ∧ w2.cell? ⟨g2, 1, none⟩ = some (.int .i64 b) ∧ w2.cell? ⟨g2, 2, none⟩ = some (.bool m) ∧ w2.cell? ⟨g2, 3, none⟩ = some (.int .i64 t) ∧ g1 < w2.heap.size ∧ g2 < w2.heap.size ∧ Below w.heap.size w w2 := by
  obtain ⟨a0, a1, a2, a3, b0, b1, b2, b3, h4, h5, h6⟩ := h
  exact ⟨(hb.cell (p := ⟨g1, 0, none⟩) h4).trans a0, (hb.cell (p := ⟨g1, 1, none⟩) h4).trans a1, (hb.cell (p := ⟨g1, 2, none⟩) h4).trans a2, (hb.cell (p := ⟨g1, 3, none⟩) h4).trans a3,
    (hb.cell (p := ⟨g2, 0, none⟩) h5).trans b0, (hb.cell (p := ⟨g2, 1, none⟩) h5).trans b1, (hb.cell (p := ⟨g2, 2, none⟩) h5).trans b2, (hb.cell (p := ⟨g2, 3, none⟩) h5).trans b3,
    Nat.lt_of_lt_of_le h4 hb.size, Nat.lt_of_lt_of_le h5 hb.size, h6.trans (hb.mono h6.size)⟩
set_option maxHeartbeats 800000
theorem words_walk (w : World) (a0 : Int) (w0 : (Lit.int .u64 a0).wf = true) :
    Calls Try.prog 5 #[.int .u64 a0] w (RetP (.bool true) w) := by
  obtain ⟨x, rfl⟩ : ∃ x, a0 = U64 x := ⟨_, wfu64 w0⟩
  clear w0
  go_enter Try.func5, Try.ntmps5
  go_wp2_with fail
  refine (known14_c _).mono ?_
  rintro e w1 ⟨rfl, hb1⟩
  go_wp2_with fail
  refine (unpack_c _ _).mono ?_
  rintro e w2 ⟨rfl, hb2⟩
  unfold unV
  go_wp2_with fail
  refine (runpack_c _ _).mono ?_
  rintro e w3 ⟨rfl, hb3⟩
  obtain ⟨hk, hB3⟩ := boxed hb3
  unfold unV
  have hB : Below w.heap.size w w3 := (hb1.trans (hb2.mono hb1.size)).trans (hB3.mono (Nat.le_trans hb1.size hb2.size))
  have hk2 := Bk.new w3 40 #[.int .i64 (unP x), .int .i64 (unB x), .bool (unM' x), .int .i64 (unT x)]
  have hk1 := hk.alloc (.cells #[.int .i64 (unP x), .int .i64 (unB x), .bool (unM' x), .int .i64 (unT x)] 40)
  have hBw := hB.alloc hB.size (.cells #[.int .i64 (unP x), .int .i64 (unB x), .bool (unM' x), .int .i64 (unT x)] 40)
  obtain ⟨W, hW⟩ : ∃ W, W = w3.alloc (.cells #[.int .i64 (unP x), .int .i64 (unB x), .bool (unM' x), .int .i64 (unT x)] 40) := ⟨_, rfl⟩
  obtain ⟨g1, hg1⟩ : ∃ g, g = w2.heap.size := ⟨_, rfl⟩
  obtain ⟨g2, hg2⟩ : ∃ g, g = w3.heap.size := ⟨_, rfl⟩
  go_wp2_with fail
  rw [← hW] at hk1 hk2 hBw
  rw [← hg1] at hk1
  rw [← hg2] at hk2
  rw [← hW, ← hg1, ← hg2]
  clear hW hg1 hg2 hb1 hb2 hb3 hB3 hk hB
  have hS : W.cell? ⟨g1, 0, none⟩ = some (.int .i64 (unP x)) ∧ W.cell? ⟨g1, 1, none⟩ = some (.int .i64 (unB x)) ∧ W.cell? ⟨g1, 2, none⟩ = some (.bool (unM' x)) ∧ W.cell? ⟨g1, 3, none⟩ = some (.int .i64 (unT x)) ∧ W.cell? ⟨g2, 0, none⟩ = some (.int .i64 (unP x)) ∧ W.cell? ⟨g2, 1, none⟩ = some (.int .i64 (unB x)) ∧ W.cell? ⟨g2, 2, none⟩ = some (.bool (unM' x)) ∧ W.cell? ⟨g2, 3, none⟩ = some (.int .i64 (unT x)) ∧ g1 < W.heap.size ∧ g2 < W.heap.size ∧ Below w.heap.size w W := ⟨hk1.four.1, hk1.four.2.1, hk1.four.2.2.1, hk1.four.2.2.2, hk2.four.1, hk2.four.2.1, hk2.four.2.2.1, hk2.four.2.2.2, hk1.lt, hk2.lt, hBw⟩
  clear hk1 hk2 hBw
  go_region_held3 (fun w' => w'.cell? ⟨g1, 0, none⟩ = some (.int .i64 (unP x)) ∧ w'.cell? ⟨g1, 1, none⟩ = some (.int .i64 (unB x)) ∧ w'.cell? ⟨g1, 2, none⟩ = some (.bool (unM' x)) ∧ w'.cell? ⟨g1, 3, none⟩ = some (.int .i64 (unT x)) ∧ w'.cell? ⟨g2, 0, none⟩ = some (.int .i64 (unP x)) ∧ w'.cell? ⟨g2, 1, none⟩ = some (.int .i64 (unB x)) ∧ w'.cell? ⟨g2, 2, none⟩ = some (.bool (unM' x)) ∧ w'.cell? ⟨g2, 3, none⟩ = some (.int .i64 (unT x)) ∧ g1 < w'.heap.size ∧ g2 < w'.heap.size ∧ Below w.heap.size w w')
    (first
      | exact held8 hS (Below.drew (Below.refl _ _))
      | go_keep
      | (refine held8 ?_ hb5; assumption))
    (first
      | (go_at_call 15; refine (of_c _ _ _ _ _).mono ?_; rintro e w5 ⟨rfl, hb5⟩))
  have hH : w5.cell? ⟨g1, 0, none⟩ = some (.int .i64 (unP x)) ∧ w5.cell? ⟨g1, 1, none⟩ = some (.int .i64 (unB x)) ∧ w5.cell? ⟨g1, 2, none⟩ = some (.bool (unM' x)) ∧ w5.cell? ⟨g1, 3, none⟩ = some (.int .i64 (unT x)) ∧ w5.cell? ⟨g2, 0, none⟩ = some (.int .i64 (unP x)) ∧ w5.cell? ⟨g2, 1, none⟩ = some (.int .i64 (unB x)) ∧ w5.cell? ⟨g2, 2, none⟩ = some (.bool (unM' x)) ∧ w5.cell? ⟨g2, 3, none⟩ = some (.int .i64 (unT x)) ∧ g1 < w5.heap.size ∧ g2 < w5.heap.size ∧ Below w.heap.size w w5 := by assumption
  clear hS
  obtain ⟨a0, a1, a2, a3, b0, b1, b2, b3, hl1, hl2, hB5⟩ := hH
  cases hok : okU x
  · have he : (unE x != 0) = true := by unfold unE; rw [hok]; rfl
    clear hok
    go_wp2_with fail
    go_ret
    exact ret_b rfl hB5
  · have he : (unE x != 0) = false := by unfold unE; rw [hok]; rfl
    obtain ⟨hr, hp⟩ := okU_yes hok
    have hv : Value.tuple #[.int .u64 (U64 (packH (unP x) (unB x) (unM' x) (unT x))), .int .i64 (errH (unP x) (unB x) (unM' x) (unT x))] = .tuple #[.int .u64 (U64 x), .int .i64 0] := by
      have e1 : unP x = fP x := if_pos hok
      have e2 : unB x = fB x := if_pos hok
      have e3 : unM' x = fM x := if_pos hok
      have e4 : unT x = fT x := if_pos hok
      rw [e1, e2, e3, e4, show packH (fP x) (fB x) (fM x) (fT x) = x from by simpa using hp, show errH (fP x) (fB x) (fM x) (fT x) = 0 from if_pos hr]
    have HV := Lib.hid hv
    clear hok hr hp hv
    go_wp2_with fail
    refine (retp_as (pack_c (unP x) (unB x) (unM' x) (unT x) _) rfl HV.out).mono ?_
    rintro e w6 ⟨rfl, hb6⟩
    have hB6 : Below w.heap.size w w6 := hB5.trans (hb6.mono hB5.size)
    clear hb6 hB5
    go_wp2_with fail
    go_ret
    exact ret_b rfl hB6
end Go.Proofs.Ytodicffceholkab
namespace Go.Proofs.Ytodicffceholkab.headWords
open Go.ChangeShapes Go.WideShapes Go.ChangeAt Go.RowKit
open Go.ChangeMaps (open_string shut_string)
set_option linter.unusedVariables false
set_option maxRecDepth 100000 in
theorem lifted (os : Os) (started : os.Started) (H : Type) (enc : TypeId × Value → H) :
    ReturnsInHanded {} Try.checked os 5 .any (Rows.headWordsSpec.pre6 enc Try.prog Try.f5 Rows.headWordsRow.domain false) (Rows.headWordsSpec.post enc Try.prog Try.f5 false true false false) := by
  refine returnsInHanded_of_change (C := Try.checked) own started (by kernel_rfl) Try.func5
    (ChangeSpec.witness6 (enc := enc) (C := Try.checked) false ⟨#[], #[.int .u64 0], []⟩ 8 (by kernel_rfl) (by kernel_rfl) (by kernel_rfl) (by kernel_rfl)) ?_
  intro W base args ds gs before hval0 hW hcnd _
  have hval : ∀ (j : Nat) t v, Try.f5.params[j]? = some t → args[j]? = some v → Value.okWide Try.prog W .any base t v := hval0
  have hW' := hW
  obtain ⟨p, q, hA0, hV, rfl, hfz, hnd⟩ := hW
  have hA : DataW.TrodAll enc Try.prog W 0 (fun _ => true) true Try.f5.params.toList args.toList ds p := hA0
  rw [Try.params5] at hA hval
  obtain ⟨v0, vs0, d0, ds0, p0, q0, hargs, rfl, rfl, h0, r0⟩ := trodAll_cons hA
  obtain ⟨rfl, rfl, rfl⟩ := trodAll_nil r0
  obtain rfl : args = #[v0] := by cases args; simp_all
  obtain ⟨rfl, rfl⟩ := trodVars_none hV
  have k0 := h0
  have lt0 : ∀ x ∈ p0, x.block < W.heap.size := by obtain ⟨m, hm⟩ := k0; exact DataW.trod_lt m _ _ _ hm
  obtain ⟨a0, e0v, _, _, w0⟩ := open_int Try.underlying31 (hval 0 31 v0 rfl rfl) h0; subst e0v
  clear hA0 hval0
  refine (words_walk W a0 w0).mono fun e W' ⟨he, bel⟩ => ?_
  subst he
  exact ⟨_, rfl, _, _, _, [], _, [], hW', trodAll_mk1 (shut_bool Try.underlying4 _), (trodAll_cons_mk (Below.trod laidOut (by kernel_rfl) (of_decide_eq_true (by kernel_rfl)) k0 bel lt0) trodAll_mk0), rfl, bel.frame _, fun h => by cases h⟩
theorem over : Rows.headWordsRow.holds Try.pinned (OpenSpec.ofChange Rows.headWordsSpec) :=
  OpenClaim.holds_of_wide 5 Try.f5 rfl rfl rfl rfl rfl rfl rfl ⟨rfl, rfl, rfl, rfl, rfl⟩ rfl rfl rfl rfl rfl (by kernel_rfl) Try.func5 (by kernel_rfl)
    (of_decide_eq_true (by kernel_rfl)) (by unfold Func.isWrapper; first | (rw [if_pos (by decide +kernel)]; kernel_rfl) | (rw [if_neg (by decide +kernel)]; exact ⟨rfl, rfl⟩))
    (fun os started H enc _ => lifted os started H enc)
theorem proved : Rows.HeadWordsSaid := over
end Go.Proofs.Ytodicffceholkab.headWords
