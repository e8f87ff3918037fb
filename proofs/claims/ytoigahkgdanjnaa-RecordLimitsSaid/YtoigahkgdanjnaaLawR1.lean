/- The law RecordLimits of layer 8 returns true for every argument. No conditions. -/
import Derived.Test.YtoigahkgdanjnaaRecG
import Derived.Test.YtoigahkgdanjnaaFrame
namespace Go.Proofs.Ytoigahkgdanjnaa
set_option linter.unusedVariables false
set_option linter.unusedSimpArgs false
open Go.RowKit
set_option maxHeartbeats 2000000
set_option maxRecDepth 100000
theorem limits_far (w : World) (n no space : Int) (h : n < 4090 ∨ (¬ n < 4090 ∧ 4100 < n)) : Calls Try.prog 6 #[.int .i64 n, .int .i64 no, .int .i64 space] w (TruP (.bool true) w) := by
  rcases h with h | ⟨h, h2⟩
  all_goals
    go_enter Try.func6, Try.ntmps6
    go_wp2_with fail
    refine Calls.mono (known8_c _) ?_
    rintro e w1 ⟨rfl, b1⟩
    go_wp2_with fail
    go_ret
    exact ⟨rfl, b1⟩
/-- What Encode answers of n noughts. -/
def EncZ (er : Int) (w : World) (e : Ending) (w' : World) : Prop := ∃ A n c, e = .returned (.tuple #[.slice A n c, .int .i64 er]) ∧ Below w.heap.size w w'
theorem limits_cases (er space no n : Int) (hr : (er = 1 ∧ badR 1 space no) ∨ (er = 3 ∧ ¬ badR 1 space no ∧ 4096 < n) ∨ (er = 0 ∧ ¬ badR 1 space no ∧ ¬ 4096 < n)) : (er = 1 ∧ ¬ space = 0 ∧ ¬ space = 1) ∨ (er = 1 ∧ space = 0 ∧ no < 0) ∨ (er = 1 ∧ space = 1 ∧ no < 0) ∨ (er = 1 ∧ space = 0 ∧ ¬ no < 0 ∧ 65535 < no) ∨ (er = 1 ∧ space = 1 ∧ ¬ no < 0 ∧ 65535 < no) ∨ (er = 3 ∧ space = 0 ∧ ¬ no < 0 ∧ ¬ 65535 < no ∧ 4096 < n) ∨ (er = 3 ∧ space = 1 ∧ ¬ no < 0 ∧ ¬ 65535 < no ∧ 4096 < n) ∨ (er = 0 ∧ space = 0 ∧ ¬ no < 0 ∧ ¬ 65535 < no ∧ ¬ 4096 < n) ∨ (er = 0 ∧ space = 1 ∧ ¬ no < 0 ∧ ¬ 65535 < no ∧ ¬ 4096 < n) := by
  unfold badR at hr
  by_cases a : space = 0
  · rcases hr with ⟨e, h⟩ | ⟨e, h, h2⟩ | ⟨e, h, h2⟩
    · by_cases b : no < 0
      · exact .inr (.inl ⟨e, a, b⟩)
      · exact .inr (.inr (.inr (.inl ⟨e, a, b, by omega⟩)))
    · exact .inr (.inr (.inr (.inr (.inr (.inl ⟨e, a, by omega, by omega, h2⟩)))))
    · exact .inr (.inr (.inr (.inr (.inr (.inr (.inr (.inl ⟨e, a, by omega, by omega, h2⟩)))))))
  · by_cases a2 : space = 1
    · rcases hr with ⟨e, h⟩ | ⟨e, h, h2⟩ | ⟨e, h, h2⟩
      · by_cases b : no < 0
        · exact .inr (.inr (.inl ⟨e, a2, b⟩))
        · exact .inr (.inr (.inr (.inr (.inl ⟨e, a2, b, by omega⟩))))
      · exact .inr (.inr (.inr (.inr (.inr (.inr (.inl ⟨e, a2, by omega, by omega, h2⟩))))))
      · exact .inr (.inr (.inr (.inr (.inr (.inr (.inr (.inr ⟨e, a2, by omega, by omega, h2⟩)))))))
    · rcases hr with ⟨e, h⟩ | ⟨e, h, h2⟩ | ⟨e, h, h2⟩
      · exact .inl ⟨e, a, a2⟩
      · exfalso; omega
      · exfalso; omega
theorem limits_walk' (w : World) (n : Nat) (no space : Int) (hn1 : 4090 ≤ n) (hn2 : n ≤ 4100) (er : Int)
    (he : ∀ g c W, Rd b8 W W.heap.size (some ⟨g, 0, none⟩) (List.replicate n 0#8) → Calls Try.prog 8 #[.agg #[.int .i64 1, .int .u64 0, .int .i64 space, .int .i64 no, .slice (some ⟨g, 0, none⟩) n c]] W (EncZ er W))
    (hr : (er = 1 ∧ badR 1 space no) ∨ (er = 3 ∧ ¬ badR 1 space no ∧ 4096 < n) ∨ (er = 0 ∧ ¬ badR 1 space no ∧ n ≤ 4096)) : Calls Try.prog 6 #[.int .i64 n, .int .i64 no, .int .i64 space] w (TruP (.bool true) w) := by
  have HE := Lib.hid he
  have p1 : (4090 : Int) ≤ (n : Int) := by omega
  have p2 : (n : Int) ≤ 4100 := by omega
  clear he
  rcases limits_cases er space no n (by rcases hr with h | ⟨h1, h2, h3⟩ | ⟨h1, h2, h3⟩; exact .inl h; exact .inr (.inl ⟨h1, h2, by omega⟩); exact .inr (.inr ⟨h1, h2, by omega⟩)) with ⟨rfl, q1, q2⟩ | ⟨rfl, rfl, q1⟩ | ⟨rfl, rfl, q1⟩ | ⟨rfl, rfl, q1, q2⟩ | ⟨rfl, rfl, q1, q2⟩ | ⟨rfl, rfl, q1, q2, q3⟩ | ⟨rfl, rfl, q1, q2, q3⟩ | ⟨rfl, rfl, q1, q2, q3⟩ | ⟨rfl, rfl, q1, q2, q3⟩
  all_goals
    clear hr
    go_enter Try.func6, Try.ntmps6
    go_wp2_with fail
    refine Calls.mono (known8_c _) ?_
    rintro e w1 ⟨rfl, b1⟩
    go_wp2_with (at_make; refine wp_make (f := b8) one8 rfl _ _ rfl 0#8 rfl w1.heap.size n _ _ _ _ rfl rfl rfl rfl (by omega) (by decide) (Nat.le_refl _) ?_; rintro q w2 hq ho2 hb2 _)
    subst hq
    have HR := Lib.hid (show Rd b8 w2 w2.heap.size (some ⟨w1.heap.size, 0, none⟩) (List.replicate n 0#8) from (show Ow b8 5 w2 w1.heap.size (.slice (some ⟨w1.heap.size, 0, none⟩) (List.replicate n 0#8).length n) (List.replicate n 0#8) from by simpa using ho2).rd)
    have HB2 := Lib.hid (b1.trans (hb2.mono b1.size))
    clear ho2 hb2 b1
    go_wp2_with fail
    refine Calls.mono (HE.out _ _ _ HR.out) ?_
    rintro e w3 ⟨A3, n3, c3, rfl, b3⟩
    have HB3 := Lib.hid (HB2.out.trans (b3.mono HB2.out.size))
    clear b3
    go_wp2_with fail
    go_ret
    exact ⟨rfl, HB3.out⟩
theorem limits_walk (w : World) (n : Int) (wn : (Lit.int .i64 n).wf = true) (no : Int) (w1 : (Lit.int .i64 no).wf = true) (space : Int) (w2 : (Lit.int .i64 space).wf = true) : Calls Try.prog 6 #[.int .i64 n, .int .i64 no, .int .i64 space] w (TruP (.bool true) w) := by
  have hz : U64 0#64 = 0 := by decide +kernel
  by_cases h : n < 4090 ∨ (¬ n < 4090 ∧ 4100 < n)
  · exact limits_far w n no space h
  · obtain ⟨k, rfl⟩ : ∃ k : Nat, n = (k : Int) := ⟨n.toNat, by omega⟩
    by_cases hb : badR 1 space no
    · refine limits_walk' w k no space (by omega) (by omega) 1 (fun g c W hR => ?_) (.inl ⟨rfl, hb⟩)
      have := encode_no 1 0#64 space no (some ⟨g, 0, none⟩) k c W 1 (by decide) (fun W => check_bad 1 0#64 space no _ k c W hb)
      unfold recV at this
      rw [hz] at this
      exact this.mono fun e w' h => ⟨_, _, _, h.1, h.2⟩
    · by_cases hk : 4096 < k
      · refine limits_walk' w k no space (by omega) (by omega) 3 (fun g c W hR => ?_) (.inr (.inl ⟨rfl, hb, hk⟩))
        have := encode_no 1 0#64 space no (some ⟨g, 0, none⟩) k c W 3 (by decide) (fun W => check_long 1 0#64 space no _ k c W hb hk)
        unfold recV at this
        rw [hz] at this
        exact this.mono fun e w' h => ⟨_, _, _, h.1, h.2⟩
      · refine limits_walk' w k no space (by omega) (by omega) 0 (fun g c W hR => ?_) (.inr (.inr ⟨rfl, hb, by omega⟩))
        obtain ⟨sp, rfl⟩ : ∃ s : Nat, space = (s : Int) := ⟨space.toNat, by unfold badR at hb; omega⟩
        obtain ⟨no', rfl⟩ : ∃ s : Nat, no = (s : Int) := ⟨no.toNat, by unfold badR at hb; omega⟩
        have := encode_ok 1 0#64 sp no' (some ⟨g, 0, none⟩) (List.replicate k 0#8) c W hb (by simp; omega) hR
        rw [List.length_replicate] at this
        unfold recV at this
        rw [hz] at this
        exact this.mono fun e w' ⟨A, c, e1, _, _, e4, _⟩ => ⟨_, _, _, e1, e4⟩
end Go.Proofs.Ytoigahkgdanjnaa
namespace Go.Proofs.Ytoigahkgdanjnaa.recordLimits
open Go.ChangeShapes Go.WideShapes Go.ChangeAt Go.RowKit
open Go.ChangeMaps (open_string shut_string)
set_option linter.unusedVariables false
set_option maxRecDepth 100000 in
theorem lifted (os : Os) (started : os.Started) (H : Type) (enc : TypeId × Value → H) :
    ReturnsInHanded {} Try.checked os 6 .any (Rows.recordLimitsSpec.pre6 enc Try.prog Try.f6 Rows.recordLimitsRow.domain false) (Rows.recordLimitsSpec.post enc Try.prog Try.f6 false true false false) := by
  refine returnsInHanded_of_change (C := Try.checked) own started (by kernel_rfl) Try.func6
    (ChangeSpec.witness6 (enc := enc) (C := Try.checked) false ⟨#[], #[.int .i64 0, .int .i64 0, .int .i64 0], []⟩ 8 (by kernel_rfl) (by kernel_rfl) (by kernel_rfl) (by kernel_rfl)) ?_
  intro W base args ds gs before hval0 hW hcnd _
  have hval : ∀ (j : Nat) t v, Try.f6.params[j]? = some t → args[j]? = some v → Value.okWide Try.prog W .any base t v := hval0
  have hW' := hW
  obtain ⟨p, q, hA0, hV, rfl, hfz, hnd⟩ := hW
  have hA : DataW.TrodAll enc Try.prog W 0 (fun _ => true) true Try.f6.params.toList args.toList ds p := hA0
  rw [Try.params6] at hA hval
  obtain ⟨v0, vs0, d0, ds0, p0, q0, hargs, rfl, rfl, h0, r0⟩ := trodAll_cons hA
  obtain ⟨v1, vs1, d1, ds1, p1, q1, rfl, rfl, rfl, h1, r1⟩ := trodAll_cons r0
  obtain ⟨v2, vs2, d2, ds2, p2, q2, rfl, rfl, rfl, h2, r2⟩ := trodAll_cons r1
  obtain ⟨rfl, rfl, rfl⟩ := trodAll_nil r2
  obtain rfl : args = #[v0, v1, v2] := by cases args; simp_all
  obtain ⟨rfl, rfl⟩ := trodVars_none hV
  have k0 := h0
  have lt0 : ∀ x ∈ p0, x.block < W.heap.size := by obtain ⟨m, hm⟩ := k0; exact DataW.trod_lt m _ _ _ hm
  obtain ⟨a0, e0v, _, _, w0⟩ := open_int Try.underlying3 (hval 0 3 v0 rfl rfl) h0; subst e0v
  have k1 := h1
  have lt1 : ∀ x ∈ p1, x.block < W.heap.size := by obtain ⟨m, hm⟩ := k1; exact DataW.trod_lt m _ _ _ hm
  obtain ⟨a1, e1v, _, _, w1⟩ := open_int Try.underlying3 (hval 1 3 v1 rfl rfl) h1; subst e1v
  have k2 := h2
  have lt2 : ∀ x ∈ p2, x.block < W.heap.size := by obtain ⟨m, hm⟩ := k2; exact DataW.trod_lt m _ _ _ hm
  obtain ⟨a2, e2v, _, _, w2⟩ := open_int Try.underlying3 (hval 2 3 v2 rfl rfl) h2; subst e2v
  clear hA0 hval0
  refine (limits_walk W a0 w0 a1 w1 a2 w2).mono fun e W' ⟨he, bel⟩ => ?_
  subst he
  exact ⟨_, rfl, _, _, _, [], _, [], hW', trodAll_mk1 (shut_bool Try.underlying4 _), (trodAll_cons_mk (Below.trod laidOut (by kernel_rfl) (of_decide_eq_true (by kernel_rfl)) k0 bel lt0) (trodAll_cons_mk (Below.trod laidOut (by kernel_rfl) (of_decide_eq_true (by kernel_rfl)) k1 bel lt1) (trodAll_cons_mk (Below.trod laidOut (by kernel_rfl) (of_decide_eq_true (by kernel_rfl)) k2 bel lt2) trodAll_mk0))), rfl, bel.frame _, fun h => by cases h⟩
theorem over : Rows.recordLimitsRow.holds Try.pinned (OpenSpec.ofChange Rows.recordLimitsSpec) :=
  OpenClaim.holds_of_wide 6 Try.f6 rfl rfl rfl rfl rfl rfl rfl ⟨rfl, rfl, rfl, rfl, rfl⟩ rfl rfl rfl rfl rfl (by kernel_rfl) Try.func6 (by kernel_rfl)
    (of_decide_eq_true (by kernel_rfl)) (by unfold Func.isWrapper; first | (rw [if_pos (by decide +kernel)]; kernel_rfl) | (rw [if_neg (by decide +kernel)]; exact ⟨rfl, rfl⟩))
    (fun os started H enc _ => lifted os started H enc)
theorem proved : Rows.RecordLimitsSaid := over
end Go.Proofs.Ytoigahkgdanjnaa.recordLimits
