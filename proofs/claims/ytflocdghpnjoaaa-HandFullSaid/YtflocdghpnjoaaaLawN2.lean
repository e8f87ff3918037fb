/- The law HandFull of layer 20 returns true for every argument. No conditions. -/
import Derived.Test.YtflocdghpnjoaaaHdH
import Derived.Test.YtflocdghpnjoaaaFrame
namespace Go.Proofs.Ytflocdghpnjoaaa
set_option linter.unusedVariables false
set_option linter.unusedSimpArgs false
open Go.RowKit Go.Maps
def idL (n : Nat) : List (Int × Int) := (List.range n).map fun i => (((i + 1 : Nat) : Int), ((i + 1 : Nat) : Int))
theorem idL_succ (n : Nat) : idL (n + 1) = idL n ++ [(((n + 1 : Nat) : Int), ((n + 1 : Nat) : Int))] := by unfold idL; rw [List.range_succ, List.map_append]; rfl
theorem idL_len (n : Nat) : (idL n).length = n := by simp [idL]
theorem idL_at (n j : Nat) (hj : j < (idL n).length) : (idL n)[j] = (((j + 1 : Nat) : Int), ((j + 1 : Nat) : Int)) := by simp [idL]
theorem look_id8 : lookI (idL 256) 9 = some 9 := by decide +kernel
theorem off_id_len : (offI (idL 256) 9).length = 255 := by decide +kernel
set_option maxHeartbeats 400000
set_option maxRecDepth 100000
theorem full_walk (w : World) (a : Int) (wf : (Lit.int .u8 a).wf = true) : Calls Try.prog 4 #[.int .u8 a] w (TruP (.bool true) w) := by
  have hb : 0 ≤ a ∧ a ≤ 255 := by simpa [Lit.wf, IntKind.min, IntKind.max, IntKind.signed, IntKind.bits] using wf
  obtain ⟨h1, h2⟩ := hb
  obtain ⟨E, hE⟩ : ∃ E : Nat, (E : Int) = a % 8 := ⟨(a % 8).toNat, by omega⟩
  have m1 : (0 : Int) ≤ a % 8 := by omega
  have m2 : a % 8 ≤ 7 := by omega
  have HE := Lib.hid hE
  clear wf hE
  go_enter Try.func4, Try.ntmps4
  go_wp2_with fail
  refine Calls.mono (known20_c w) ?_
  rintro e w1 ⟨rfl, b1⟩
  have HB1 := Lib.hid b1
  clear b1
  go_wp2_with fail
  refine Calls.mono (hnew_b w1) ?_
  rintro e w2 ⟨g, rfl, h2', b2⟩
  have HB2 := Lib.hid b2
  have HT2 := Lib.hid h2'
  clear b2 h2'
  go_wp2_with fail
  go_loopw [4] (fun i wr => ∃ k : Nat, k ≤ 256 + E ∧ i = .int .i64 ((k : Int) + 1) ∧ TabB w1.heap.size wr g (idL (min k 256)) (min k 256) ∧ Below w1.heap.size w1 wr) (fun i _ => 300 - (intOf i).toNat)
  case atStart => exact ⟨0, by omega, rfl, HT2.out, HB2.out⟩
  case round =>
    obtain ⟨k, hk, rfl, ht, hB⟩ := hrel
    have he := HE.out
    have q1 : (k : Int) ≤ 264 := by omega
    by_cases hlt : k < 256 + E
    · have t1 : decide ((k : Int) + 1 ≤ 256 + a % 8) = true := by simp; omega
      have HB := Lib.hid hB
      by_cases hf : k < 256
      · have t2 : decide ((k : Int) + 1 ≤ 256) = true := by simp; omega
        rw [Nat.min_eq_left (by omega)] at ht
        have HO := Lib.hid (hopen_b ht hB.size ((k : Int) + 1) (by omega) (by omega) (by rw [idL_len]; omega) (by omega))
        clear ht hB he
        go_wp2_with fail
        refine Calls.mono HO.out ?_
        rintro e w3 ⟨rfl, h3, b3⟩
        have H3 := Lib.hid (show TabB w1.heap.size w3 g (idL (min (k + 1) 256)) (min (k + 1) 256) from by rw [Nat.min_eq_left (by omega), idL_succ]; exact h3)
        have HB3 := Lib.hid (HB.out.trans b3)
        clear h3 b3 HO
        go_wp2_with fail
        go_roundw
        case rel => exact ⟨k + 1, by omega, by go_num, H3.out, HB3.out⟩
        case measure => (first | (simp [intOf]; done) | (simp [intOf]; omega))
      · have t2 : decide ((k : Int) + 1 ≤ 256) = false := by simp; omega
        have t3 : decide ((256 : Int) < (k : Int) + 1) = true := by simp; omega
        rw [Nat.min_eq_right (by omega)] at ht
        have HT := Lib.hid ht
        have HO := Lib.hid (hopenfull_b ht ((k : Int) + 1) (by omega) (by rw [idL_len]; omega))
        clear ht hB he
        go_wp2_with fail
        refine Calls.mono HO.out ?_
        rintro e w3 ⟨rfl, rfl⟩
        have H3 := Lib.hid (show TabB w1.heap.size w3 g (idL (min (k + 1) 256)) (min (k + 1) 256) from by rw [Nat.min_eq_right (by omega)]; exact HT.out)
        clear HO
        go_wp2_with fail
        go_roundw
        case rel => exact ⟨k + 1, by omega, by go_num, H3.out, HB.out⟩
        case measure => (first | (simp [intOf]; done) | (simp [intOf]; omega))
    · have t1 : decide ((k : Int) + 1 ≤ 256 + a % 8) = false := by simp; omega
      rw [Nat.min_eq_right (by omega)] at ht
      have HB := Lib.hid hB
      have HT := Lib.hid ht
      have HF7 := Lib.hid (show Calls Try.prog 10 #[.pointer (some ⟨g, 0, none⟩), .int .i64 7] wr fun e w' => e = .returned (.tuple #[.int .i64 7, .int .i64 0]) ∧ TabB w1.heap.size w' g (idL 256) 256 ∧ Below wr.heap.size wr w' from
        (hfor_b ht 7 6 (by rw [idL_len]; omega) (by rw [idL_at]; rfl) (fun j hj => by rw [idL_at]; simp; omega)).mono fun e w' h => by rw [idL_at] at h; exact h)
      obtain ⟨w5, hw5⟩ : ∃ x, x = wr := ⟨_, rfl⟩
      clear ht hB he hlt
      go_wp2_with fail
      refine Calls.mono HF7.out ?_
      rintro e w6 ⟨rfl, h6, b6⟩
      have HB6 := Lib.hid (HB.out.trans (b6.mono HB.out.size))
      have HF9 := Lib.hid (hforfull_b h6 999 (by decide) (by rw [idL_len]; omega) (fun j hj => by rw [idL_at]; rw [idL_len] at hj; simp; omega))
      clear h6 b6 HF7
      go_wp2_with fail
      refine Calls.mono HF9.out ?_
      rintro e w7 ⟨rfl, h7, b7⟩
      have HB7 := Lib.hid (HB6.out.trans (b7.mono HB6.out.size))
      have HC := Lib.hid (hclose_b h7 HB7.out.size 9 (by decide))
      rw [look_id8] at HC
      clear h7 b7 HF9
      go_wp2_with fail
      refine Calls.mono HC.out ?_
      rintro e w8 ⟨rfl, h8, b8⟩
      have HB8 := Lib.hid (HB7.out.trans b8)
      have HO := Lib.hid (hopen_b h8 HB8.out.size 5 (by decide) (by decide) (by rw [off_id_len]; omega) (by decide))
      clear h8 b8 HC
      go_wp2_with fail
      refine Calls.mono HO.out ?_
      rintro e w9 ⟨rfl, h9, b9⟩
      have HB9 := Lib.hid (HB1.out.trans ((HB8.out.trans b9).mono HB1.out.size))
      clear h9 b9 HO
      go_wp2_with fail
      go_ret
      exact ⟨rfl, HB9.out⟩
end Go.Proofs.Ytflocdghpnjoaaa
namespace Go.Proofs.Ytflocdghpnjoaaa.handFull
open Go.ChangeShapes Go.WideShapes Go.ChangeAt Go.RowKit
open Go.ChangeMaps (open_string shut_string)
set_option linter.unusedVariables false
set_option maxRecDepth 100000 in
theorem lifted (os : Os) (started : os.Started) (H : Type) (enc : TypeId × Value → H) :
    ReturnsInHanded {} Try.checked os 4 .any (Rows.handFullSpec.pre6 enc Try.prog Try.f4 Rows.handFullRow.domain false) (Rows.handFullSpec.post enc Try.prog Try.f4 false true false false) := by
  refine returnsInHanded_of_change (C := Try.checked) own started (by kernel_rfl) Try.func4
    (ChangeSpec.witness6 (enc := enc) (C := Try.checked) false ⟨#[], #[.int .u8 0], []⟩ 8 (by kernel_rfl) (by kernel_rfl) (by kernel_rfl) (by kernel_rfl)) ?_
  intro W base args ds gs before hval0 hW hcnd _
  have hval : ∀ (j : Nat) t v, Try.f4.params[j]? = some t → args[j]? = some v → Value.okWide Try.prog W .any base t v := hval0
  have hW' := hW
  obtain ⟨p, q, hA0, hV, rfl, hfz, hnd⟩ := hW
  have hA : DataW.TrodAll enc Try.prog W 0 (fun _ => true) true Try.f4.params.toList args.toList ds p := hA0
  rw [Try.params4] at hA hval
  obtain ⟨v0, vs0, d0, ds0, p0, q0, hargs, rfl, rfl, h0, r0⟩ := trodAll_cons hA
  obtain ⟨rfl, rfl, rfl⟩ := trodAll_nil r0
  obtain rfl : args = #[v0] := by cases args; simp_all
  obtain ⟨rfl, rfl⟩ := trodVars_none hV
  have k0 := h0
  have lt0 : ∀ x ∈ p0, x.block < W.heap.size := by obtain ⟨m, hm⟩ := k0; exact DataW.trod_lt m _ _ _ hm
  obtain ⟨a0, e0v, _, _, w0⟩ := open_int Try.underlying5 (hval 0 5 v0 rfl rfl) h0; subst e0v
  clear hA0 hval0
  refine (full_walk W a0 w0).mono fun e W' ⟨he, bel⟩ => ?_
  subst he
  exact ⟨_, rfl, _, _, _, [], _, [], hW', trodAll_mk1 (shut_bool Try.underlying4 _), (trodAll_cons_mk (Below.trod laidOut (by kernel_rfl) (of_decide_eq_true (by kernel_rfl)) k0 bel lt0) trodAll_mk0), rfl, bel.frame _, fun h => by cases h⟩
theorem over : Rows.handFullRow.holds Try.pinned (OpenSpec.ofChange Rows.handFullSpec) :=
  OpenClaim.holds_of_wide 4 Try.f4 rfl rfl rfl rfl rfl rfl rfl ⟨rfl, rfl, rfl, rfl, rfl⟩ rfl rfl rfl rfl rfl (by kernel_rfl) Try.func4 (by kernel_rfl)
    (of_decide_eq_true (by kernel_rfl)) (by unfold Func.isWrapper; first | (rw [if_pos (by decide +kernel)]; kernel_rfl) | (rw [if_neg (by decide +kernel)]; exact ⟨rfl, rfl⟩))
    (fun os started H enc _ => lifted os started H enc)
theorem proved : Rows.HandFullSaid := over
end Go.Proofs.Ytflocdghpnjoaaa.handFull
