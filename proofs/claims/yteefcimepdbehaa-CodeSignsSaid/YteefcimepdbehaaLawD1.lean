/- The law CodeSigns of layer 5 returns true for every argument. No conditions. -/
import Derived.Test.YteefcimepdbehaaCodD
import Derived.Test.YteefcimepdbehaaFrame
namespace Go.Proofs.Yteefcimepdbehaa
set_option linter.unusedVariables false
set_option linter.unusedSimpArgs false
open Go.RowKit
theorem EncS.intv {w0 w : World} {B g : Nat} {bs : List (BitVec 8)} (v : Int) (h : EncS w0 B g bs w) (hv : v = I64 (BitVec.ofInt 64 v)) (hl : bs.length ≤ 1073741824) :
    Calls Try.prog 19 #[.pointer (some ⟨g, 0, none⟩), .int .i64 v] w fun e w' => e = .returned (.tuple #[]) ∧ EncS w0 B g (bs ++ uintL (zigL (BitVec.ofInt 64 v))) w' := by
  have k := h.int (BitVec.ofInt 64 v) hl
  rw [← hv] at k
  exact k
theorem dec_sign {w : World} {d : Nat} {v : Int} (hv : v = I64 (BitVec.ofInt 64 v)) (h : DecAt w d (uintL (zigL (BitVec.ofInt 64 v))) 0) : Calls Try.prog 28 #[.pointer (some ⟨d, 0, none⟩)] w fun e w' => e = .returned (.int .i64 v) ∧ DecAt w' d [] 0 ∧ Only w w' d := by
  have hu : (uintL (zigL (BitVec.ofInt 64 v))).length ≤ 10 := uintF_len 9 _
  have k := dec_int w d _ h (by omega)
  have e := dec_uint_back (zigL (BitVec.ofInt 64 v)) []
  rw [List.append_nil] at e
  rw [e] at k
  refine k.mono fun e w' h => ?_
  obtain ⟨h1, h2, h3⟩ := h
  rw [zag_zig, ← hv] at h1
  exact ⟨h1, h2, h3⟩
set_option maxHeartbeats 1000000
set_option maxRecDepth 100000
theorem signs_ok (w : World) (v u : Int) (hv : v = I64 (BitVec.ofInt 64 v)) (HZ : Hid (∀ w, Calls Try.prog 20 #[.int .i64 v] w (RetP (.int .u64 u) w))) (HA : Hid (∀ w, Calls Try.prog 34 #[.int .u64 u] w (RetP (.int .i64 v) w))) (r1 r2 r3 : Bool) (t1 : decide (v < -64) = r1) (t2 : decide (63 < v) = r2) (N : Nat) (hN : Hid (N = (uintL (zigL (BitVec.ofInt 64 v))).length)) (t3 : ((N : Int) == 1) = r3) (hr : (r1 || (r2 || r3)) = true) :
    Calls Try.prog 5 #[.int .i64 v] w (TruP (.bool true) w) := by
  have HV := Lib.hid hv
  have hu : (uintL (zigL (BitVec.ofInt 64 v))).length ≤ 10 := uintF_len 9 _
  have HU := Lib.hid hu
  clear hv hu
  cases r1 <;> cases r2 <;> cases r3 <;> simp only [Bool.or_true, Bool.or_false, Bool.true_or, Bool.false_or, Bool.false_eq_true, reduceCtorEq] at hr
  all_goals
    go_enter Try.func5, Try.ntmps5
    go_wp2_with fail
    refine Calls.mono (known5_c _) ?_
    rintro e w1 ⟨rfl, hb⟩
    have HB1 := Lib.hid hb
    clear hb
    go_wp2_with fail
    have hS : EncS w1 w1.heap.size w1.heap.size [] _ := EncS.new w1
    refine Calls.mono (EncS.intv v hS HV.out (by decide)) ?_
    rintro e w4 ⟨rfl, h4⟩
    clear hS
    rw [List.nil_append] at h4
    obtain ⟨he4, hb4, hg, hgl⟩ := h4.out
    have HB := Lib.hid (enc_bytes w4 w1.heap.size _ he4 (by have := HU.out; omega))
    clear h4 hg
    go_wp2_with fail
    refine Calls.mono HB.out ?_
    rintro e w5 ⟨A5, c5, rfl, hc5, hr5, hb5, _⟩
    have HO := Lib.hid (of_c _ A5 c5 w5 hr5 (by have := HU.out; omega))
    have he5 := he4.below hb5
    have hS5 : Below w1.heap.size w1 w5 := hb4.trans (hb5.mono (by omega))
    have hg5 := Nat.lt_of_lt_of_le hgl hb5.size
    clear HB hr5 he4 hb4 hgl hc5
    go_wp2_with fail
    refine Calls.mono HO.out ?_
    rintro e w6 ⟨d, rfl, hd1, hd2, hd, hb6⟩
    have he6 : EncR' w5.heap.size w1.heap.size (uintL (zigL (BitVec.ofInt 64 v))) w6 := by
      obtain ⟨A, c, h1, h2⟩ := he5
      exact ⟨A, c, h1.below hb6 h1.lt, h2.below hb6⟩
    have hS6 : Below w1.heap.size w1 w6 := hS5.trans (hb6.mono (by omega))
    have hgd : w1.heap.size ≠ d := by omega
    have hdl := hd.lt
    have HD := Lib.hid (dec_sign HV.out hd)
    have HS6 := Lib.hid hS6
    clear HO hS5 he5 hS6 hd
    go_wp2_with fail
    refine Calls.mono HD.out ?_
    rintro e w7 ⟨rfl, hd7, ho7⟩
    have he7 := EncR.only he6 ho7 hd1 hgd
    have hS7 := HS6.out.trans (ho7.below (B := w1.heap.size) (by omega) hdl)
    have he7' : EncR w1.heap.size (uintL (zigL (BitVec.ofInt 64 v))) w7 := by
      obtain ⟨A, c, h1, h2⟩ := he7
      exact ⟨A, c, h1, h2.more (by have := ho7.size; have := hb6.size; omega)⟩
    have hgl7 : w1.heap.size ≤ w7.heap.size := hS7.size
    have HS7 := Lib.hid (HB1.out.trans (hS7.mono HB1.out.size))
    have HBB := Lib.hid (enc_bytes w7 w1.heap.size _ he7' (by have := HU.out; omega))
    have HL := Lib.hid (dec_left w7 d [] 0 hd7)
    have HB9 : Hid (∀ w9, Below w7.heap.size w7 w9 → Below w.heap.size w w9) := Lib.hid fun w9 h => HS7.out.trans (h.mono HS7.out.size)
    clear he6 he7 hS7 he7' hd7 HD HS6
    go_wp2_with fail
    refine Calls.mono HL.out ?_
    rintro e w8 ⟨rfl, rfl⟩
    go_wp2_with fail
    first
      | (have _z : (decide (v < -64) || decide (63 < v)) = false := (by rw [t1, t2]; rfl)
         refine Calls.mono HBB.out ?_
         rintro e w9 ⟨A9, c9, rfl, _, _, hb9, _⟩
         rw [← hN.out]
         have hb9' := HB9.out w9 hb9
         clear HBB
         go_wp2_with fail)
      | (have hb9' := HB9.out w8 (Below.refl _ _))
    refine Calls.mono (HZ.out _) ?_
    rintro e w10 ⟨rfl, hb10⟩
    have hb10' := hb9'.trans (hb10.mono hb9'.size)
    clear hb9' hb10
    go_wp2_with fail
    refine Calls.mono (HA.out _) ?_
    rintro e w11 ⟨rfl, hb11⟩
    have hb11' := hb10'.trans (hb11.mono hb10'.size)
    clear hb10' hb11
    go_wp2_with fail
    go_ret
    exact ⟨rfl, hb11'⟩
theorem zig_len (v : Int) (h1 : ¬ v < -64) (h2 : ¬ 63 < v) : (uintL (zigL (BitVec.ofInt 64 v))).length = 1 := by
  have hz : (zigL (BitVec.ofInt 64 v)).toNat < 128 := by
    have e : ∀ k : Fin 128, (zigL (BitVec.ofInt 64 ((k.val : Int) - 64))).toNat < 128 := by decide +kernel
    have h := e ⟨(v + 64).toNat, by omega⟩
    have e2 : (((v + 64).toNat : Nat) : Int) - 64 = v := by omega
    simp only [e2] at h
    exact h
  unfold uintL
  rw [uintF_small hz]
  rfl
theorem signs_walk (w : World) (v : Int) (_wv : (Lit.int .i64 v).wf = true) : Calls Try.prog 5 #[.int .i64 v] w (TruP (.bool true) w) := by
  have hb : -9223372036854775808 ≤ v ∧ v ≤ 9223372036854775807 := by
    simp [Lit.wf, IntKind.min, IntKind.max, IntKind.bits, IntKind.signed] at _wv
    omega
  have hv := I64_of hb.1 hb.2
  have hr : (decide (v < -64) || (decide (63 < v) || (((uintL (zigL (BitVec.ofInt 64 v))).length : Int) == 1))) = true := by
    by_cases h1 : v < -64
    · simp [h1]
    · by_cases h2 : 63 < v
      · simp [h2]
      · rw [zig_len v h1 h2]; simp
  by_cases hn : v < 0
  · obtain ⟨n, hn2, hn3⟩ : ∃ n : Nat, v = -(n : Int) - 1 ∧ n < 2 ^ 63 := ⟨(-v - 1).toNat, by omega, by omega⟩
    have h := fun w => zig_neg w n hn3
    have k := fun w => zag_odd w n hn3
    rw [← hn2] at h k
    exact signs_ok w v _ hv (Lib.hid h) (Lib.hid k) _ _ _ rfl rfl _ (Lib.hid rfl) rfl hr
  · obtain ⟨n, hn2, hn3⟩ : ∃ n : Nat, v = (n : Int) ∧ n < 2 ^ 63 := ⟨v.toNat, by omega, by omega⟩
    have h := fun w => zig_pos w n hn3
    have k := fun w => zag_even w n hn3
    rw [← hn2] at h k
    exact signs_ok w v _ hv (Lib.hid h) (Lib.hid k) _ _ _ rfl rfl _ (Lib.hid rfl) rfl hr
end Go.Proofs.Yteefcimepdbehaa
namespace Go.Proofs.Yteefcimepdbehaa.codeSigns
open Go.ChangeShapes Go.WideShapes Go.ChangeAt Go.RowKit
open Go.ChangeMaps (open_string shut_string)
set_option linter.unusedVariables false
set_option maxRecDepth 100000 in
theorem lifted (os : Os) (started : os.Started) (H : Type) (enc : TypeId × Value → H) :
    ReturnsInHanded {} Try.checked os 5 .any (Rows.codeSignsSpec.pre6 enc Try.prog Try.f5 Rows.codeSignsRow.domain false) (Rows.codeSignsSpec.post enc Try.prog Try.f5 false true false false) := by
  refine returnsInHanded_of_change (C := Try.checked) own started (by kernel_rfl) Try.func5
    (ChangeSpec.witness6 (enc := enc) (C := Try.checked) false ⟨#[], #[.int .i64 0], []⟩ 8 (by kernel_rfl) (by kernel_rfl) (by kernel_rfl) (by kernel_rfl)) ?_
  intro W base args ds gs before hval0 hW hcnd _
  have hval : ∀ (j : Nat) t v, Try.f5.params[j]? = some t → args[j]? = some v → Value.okWide Try.prog W .any base t v := hval0
  have hW' := hW
  obtain ⟨p, q, hA0, hV, rfl, hfz, hnd⟩ := hW
  have hA : DataW.TrodAll enc Try.prog W 0 (fun _ => true) true Try.f5.params.toList args.toList ds p := hA0
  rw [Try.params5] at hA hval
  obtain ⟨v0, vs0, d0, ds0, p0, q0, hargs, rfl, rfl, h0, r0⟩ := trodAll_cons hA
  obtain ⟨rfl, rfl, rfl⟩ := trodAll_nil r0
  obtain rfl : args = #[v0] := by cases args; simp_all
  obtain ⟨rfl, rfl⟩ := trodVars_none hV
  have k0 := h0
  have lt0 : ∀ x ∈ p0, x.block < W.heap.size := by obtain ⟨m, hm⟩ := k0; exact DataW.trod_lt m _ _ _ hm
  obtain ⟨a0, e0v, _, _, w0⟩ := open_int Try.underlying2 (hval 0 2 v0 rfl rfl) h0; subst e0v
  clear hA0 hval0
  refine (signs_walk W a0 w0).mono fun e W' ⟨he, bel⟩ => ?_
  subst he
  exact ⟨_, rfl, _, _, _, [], _, [], hW', trodAll_mk1 (shut_bool Try.underlying4 _), (trodAll_cons_mk (Below.trod laidOut (by kernel_rfl) (of_decide_eq_true (by kernel_rfl)) k0 bel lt0) trodAll_mk0), rfl, bel.frame _, fun h => by cases h⟩
theorem over : Rows.codeSignsRow.holds Try.pinned (OpenSpec.ofChange Rows.codeSignsSpec) :=
  OpenClaim.holds_of_wide 5 Try.f5 rfl rfl rfl rfl rfl rfl rfl ⟨rfl, rfl, rfl, rfl, rfl⟩ rfl rfl rfl rfl rfl (by kernel_rfl) Try.func5 (by kernel_rfl)
    (of_decide_eq_true (by kernel_rfl)) (by unfold Func.isWrapper; first | (rw [if_pos (by decide +kernel)]; kernel_rfl) | (rw [if_neg (by decide +kernel)]; exact ⟨rfl, rfl⟩))
    (fun os started H enc _ => lifted os started H enc)
theorem proved : Rows.CodeSignsSaid := over
end Go.Proofs.Yteefcimepdbehaa.codeSigns
