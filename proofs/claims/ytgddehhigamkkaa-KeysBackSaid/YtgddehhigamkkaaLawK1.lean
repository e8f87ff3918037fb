/- The law KeysBack of layer 10 returns true for every argument. No conditions. -/
import Derived.Test.YtgddehhigamkkaaKyN
import Derived.Test.YtgddehhigamkkaaFrame
import Derived.Test.YtgddehhigamkkaaOpenS
namespace Go.Proofs.Ytgddehhigamkkaa
set_option linter.unusedVariables false
set_option linter.unusedSimpArgs false
open Go.RowKit Go.Maps
set_option maxHeartbeats 1000000
set_option maxRecDepth 100000
theorem kback_walk (w : World) (u : Int) (wu : (Lit.int .u64 u).wf = true) : Calls Try.prog 7 #[.int .u64 u] w (TruP (.bool true) w) := by
  have hb : 0 ≤ u ∧ u ≤ 18446744073709551615 := by simpa [Lit.wf, IntKind.min, IntKind.max, IntKind.signed, IntKind.bits] using wu
  have HU := Lib.hid (And.intro (unpack_c u · hb.1 (by omega)) (And.intro (pack_unpack u hb.1 (by omega)) (unpack_short u)))
  obtain ⟨x, y, hxy⟩ : ∃ x y, unpackI u = (x, y) := ⟨_, _, rfl⟩
  rw [hxy] at HU
  clear wu hb hxy
  go_enter Try.func7, Try.ntmps7
  go_wp2_with fail
  refine Calls.mono (known10_c _) ?_
  rintro e w1 ⟨rfl, b1⟩
  have HB1 := Lib.hid b1
  clear b1
  go_wp2_with fail
  refine Calls.mono (HU.out.1 _) ?_
  rintro e w2 ⟨rfl, b2⟩
  have HB2 := Lib.hid (HB1.out.trans (b2.mono HB1.out.size))
  clear b2
  unfold kV
  have hk := Bk.new w2 23 #[.int .i64 x, .int .i64 y]
  obtain ⟨c0, c1⟩ := hk.two
  have HK := Lib.hid hk
  clear hk
  go_wp2_with fail
  have hp := pack_c (x, y) (w2.alloc (.cells #[.int .i64 x, .int .i64 y] 23))
  rw [HU.out.2.1] at hp
  refine Calls.mono hp ?_
  rintro e w3 ⟨rfl, b3⟩
  obtain ⟨d0, d1⟩ := (HK.out.below b3 HK.out.lt).two
  have HB3 := Lib.hid ((HB2.out.trans ((Gw.alloc w2 _).mono HB2.out.size)).trans (b3.mono (by have := HB2.out.size; simp; omega)))
  clear b3 hp c0 c1
  go_wp2_with fail
  have hs := short_c (x, y) w3
  rw [HU.out.2.2] at hs
  refine Calls.mono hs ?_
  rintro e w4 ⟨rfl, b4⟩
  have HB4 := Lib.hid (HB3.out.trans (b4.mono HB3.out.size))
  clear b4 hs
  go_wp2_with fail
  go_ret
  exact ⟨rfl, HB4.out⟩
end Go.Proofs.Ytgddehhigamkkaa
namespace Go.Proofs.Ytgddehhigamkkaa.keysBack
open Go.ChangeShapes Go.WideShapes Go.ChangeAt Go.RowKit
open Go.ChangeMaps (open_string shut_string)
set_option linter.unusedVariables false
set_option maxRecDepth 100000 in
theorem lifted (os : Os) (started : os.Started) (H : Type) (enc : TypeId × Value → H) :
    ReturnsInHanded {} Try.checked os 7 .any (Rows.keysBackSpec.pre6 enc Try.prog Try.f7 Rows.keysBackRow.domain false) (Rows.keysBackSpec.post enc Try.prog Try.f7 false true false false) := by
  refine returnsInHanded_of_change (C := Try.checked) own started (by kernel_rfl) Try.func7
    (ChangeSpec.witness6 (enc := enc) (C := Try.checked) false ⟨#[], #[.int .u64 0], []⟩ 8 (by kernel_rfl) (by kernel_rfl) (by kernel_rfl) (by kernel_rfl)) ?_
  intro W base args ds gs before hval0 hW hcnd _
  have hval : ∀ (j : Nat) t v, Try.f7.params[j]? = some t → args[j]? = some v → Value.okWide Try.prog W .any base t v := hval0
  have hW' := hW
  obtain ⟨p, q, hA0, hV, rfl, hfz, hnd⟩ := hW
  have hA : DataW.TrodAll enc Try.prog W 0 (fun _ => true) true Try.f7.params.toList args.toList ds p := hA0
  rw [Try.params7] at hA hval
  obtain ⟨v0, vs0, d0, ds0, p0, q0, hargs, rfl, rfl, h0, r0⟩ := trodAll_cons hA
  obtain ⟨rfl, rfl, rfl⟩ := trodAll_nil r0
  obtain rfl : args = #[v0] := by cases args; simp_all
  obtain ⟨rfl, rfl⟩ := trodVars_none hV
  have k0 := h0
  have lt0 : ∀ x ∈ p0, x.block < W.heap.size := by obtain ⟨m, hm⟩ := k0; exact DataW.trod_lt m _ _ _ hm
  obtain ⟨a0, e0v, _, _, w0⟩ := open_int Try.underlying30 (hval 0 30 v0 rfl rfl) h0; subst e0v
  clear hA0 hval0
  refine (kback_walk W a0 w0).mono fun e W' ⟨he, bel⟩ => ?_
  subst he
  exact ⟨_, rfl, _, _, _, [], _, [], hW', trodAll_mk1 (shut_bool Try.underlying4 _), (trodAll_cons_mk (Below.trod laidOut (by kernel_rfl) (of_decide_eq_true (by kernel_rfl)) k0 bel lt0) trodAll_mk0), rfl, bel.frame _, fun h => by cases h⟩
theorem over : Rows.keysBackRow.holds Try.pinned (OpenSpec.ofChange Rows.keysBackSpec) :=
  OpenClaim.holds_of_wide 7 Try.f7 rfl rfl rfl rfl rfl rfl rfl ⟨rfl, rfl, rfl, rfl, rfl⟩ rfl rfl rfl rfl rfl (by kernel_rfl) Try.func7 (by kernel_rfl)
    (of_decide_eq_true (by kernel_rfl)) (by unfold Func.isWrapper; first | (rw [if_pos (by decide +kernel)]; kernel_rfl) | (rw [if_neg (by decide +kernel)]; exact ⟨rfl, rfl⟩))
    (fun os started H enc _ => lifted os started H enc)
theorem proved : Rows.KeysBackSaid := over
end Go.Proofs.Ytgddehhigamkkaa.keysBack
