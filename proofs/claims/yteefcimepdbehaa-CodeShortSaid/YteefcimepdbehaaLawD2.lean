/- The law CodeShort of layer 5 returns true for every argument. No conditions. -/
import Derived.Test.YteefcimepdbehaaCodE
import Derived.Test.YteefcimepdbehaaFrame
namespace Go.Proofs.Yteefcimepdbehaa
set_option linter.unusedVariables false
set_option linter.unusedSimpArgs false
open Go.RowKit
set_option maxHeartbeats 1000000
set_option maxRecDepth 100000
theorem short_ok (w : World) (x : BitVec 64) (cut : Int) (hc1 : -9223372036854775808 ≤ cut) (hc2 : cut ≤ 9223372036854775807) :
    Calls Try.prog 4 #[.int .u64 (U64 x), .int .i64 cut] w (TruP (.bool true) w) := by
  have hu : (uintL x).length ≤ 10 := uintF_len 9 _
  have HU := Lib.hid hu
  clear hu
  go_enter Try.func4, Try.ntmps4
  go_wp2_with fail
  refine Calls.mono (known5_c _) ?_
  rintro e w1 ⟨rfl, hb⟩
  have HB1 := Lib.hid hb
  clear hb
  go_wp2_with fail
  have hS : EncS w1 w1.heap.size w1.heap.size [] _ := EncS.new w1
  refine Calls.mono (EncS.uint x hS (by decide)) ?_
  rintro e w4 ⟨rfl, h4⟩
  clear hS
  rw [List.nil_append] at h4
  obtain ⟨he4, hb4, hg, hgl⟩ := h4.out
  have HB := Lib.hid (enc_bytes w4 w1.heap.size _ he4 (by have := HU.out; omega))
  clear h4 hg
  go_wp2_with fail
  refine Calls.mono HB.out ?_
  rintro e w5 ⟨A5, c5, rfl, hc5, hr5, hb5, _⟩
  have hS5 : Below w1.heap.size w1 w5 := hb4.trans (hb5.mono (by omega))
  have HS5 := Lib.hid (HB1.out.trans (hS5.mono HB1.out.size))
  obtain ⟨L, hL⟩ : ∃ L, L = (uintL x).length := ⟨_, rfl⟩
  rw [← hL] at hc5 ⊢
  have HL := Lib.hid hL
  have hLb : L ≤ 10 := by rw [hL]; exact HU.out
  have s0 := shr7 x
  clear HB he4 hb4 hgl hS5 hL
  go_wp2_with fail
  go_loopw [7, 8] (fun i c wr => ∃ (j n : Nat) (cur y : BitVec 64), i = .int .i64 n ∧ c = .int .u64 (U64 y) ∧ Hid (y = cur >>> 7) ∧ Hid (n + (uintF j cur).length = L + 1) ∧ Hid (cur.toNat < 2 ^ (7 * j + 1)) ∧ 1 ≤ n ∧ n ≤ L ∧ wr = w5) (fun _ c _ => (intOf c).toNat)
  case atStart => exact ⟨9, 1, x, x >>> 7, rfl, rfl, Lib.hid rfl, Lib.hid (by rw [HL.out]; unfold uintL; omega), Lib.hid (by simpa using x.isLt), Nat.le_refl _, (by rw [HL.out]; exact uintF_pos 9 x), rfl⟩
  case round =>
    obtain ⟨j, n, cur, y, rfl, rfl, hy, hn, hj, hn1, hnL, rfl⟩ := hrel
    by_cases hlt : cur.toNat < 128
    · have hnn : n = L := by have := hn.out; rw [uintF_one hlt] at this; omega
      subst hnn
      have hy0 : U64 y = 0 := by rw [hy.out]; unfold U64; rw [BitVec.toNat_ushiftRight, Nat.shiftRight_eq_div_pow]; omega
      rw [hy0]
      clear hy hn hj hlt hy0
      by_cases hcut : cut < 0
      · have t1 : decide (cut < 0) = true := by simp [hcut]
        go_wp2_with fail
        go_ret
        exact ⟨rfl, HS5.out⟩
      · have t1 : decide (cut < 0) = false := by simp [hcut]
        obtain ⟨k, rfl⟩ : ∃ k : Nat, cut = (k : Int) := ⟨cut.toNat, by omega⟩
        have t2 : ((k : Int).tmod (n : Int)) = ((k % n : Nat) : Int) := (Int.ofNat_tmod k n).symm
        have hm : k % n < n := Nat.mod_lt _ (by omega)
        obtain ⟨m, hm2⟩ : ∃ m, m = k % n := ⟨_, rfl⟩
        rw [← hm2] at t2 hm
        have p1 : (0 : Int) ≤ (m : Int) := by omega
        have p2 : (m : Int) ≤ (c5 : Int) := by omega
        have p3 : (m : Int) ≤ (n : Int) := by omega
        have p4 : ((n : Int) == 0) = false := by simp; omega
        have hrt := hr5.take m
        have hlen : ((uintL x).take m).length = m := by rw [List.length_take, ← HL.out]; omega
        have HO := of_c ((uintL x).take m) A5 c5 wr hrt (by omega)
        rw [hlen] at HO
        have HO := Lib.hid HO
        have HM := Lib.hid (show m < (uintL x).length by rw [← HL.out]; exact hm)
        clear hlen hrt hm2 hcut hr5 hm
        go_wp2_with fail
        refine Calls.mono HO.out ?_
        rintro e w6 ⟨d, rfl, hd1, hd2, hd, hb6⟩
        have HD := Lib.hid (dec_uint_short w6 d x m HM.out hd)
        have HS6 := Lib.hid (HS5.out.trans (hb6.mono HS5.out.size))
        have hdl := hd.lt
        clear HO hd
        go_wp2_with fail
        refine Calls.mono HD.out ?_
        rintro e w7 ⟨rfl, hd7, ho7⟩
        have HS7 := Lib.hid (HS6.out.trans (ho7.below (B := w.heap.size) (by have := HS5.out.size; omega) hdl))
        have HI := Lib.hid (dec_int_err w7 d [] hd7)
        have HE := Lib.hid (dec_err w7 d [] 3 hd7)
        have HLf := Lib.hid (dec_left w7 d [] 3 hd7)
        clear hd7 HD
        go_wp2_with fail
        refine Calls.mono HI.out ?_
        rintro e w8 ⟨rfl, rfl⟩
        go_wp2_with fail
        refine Calls.mono HE.out ?_
        rintro e w9 ⟨rfl, rfl⟩
        go_wp2_with fail
        refine Calls.mono HLf.out ?_
        rintro e w10 ⟨rfl, rfl⟩
        go_wp2_with fail
        go_ret
        exact ⟨rfl, HS7.out⟩
    · obtain ⟨i, rfl, h1, h2⟩ := uintF_more hlt hj.out
      have hy0 : 0 < U64 y := by rw [hy.out]; unfold U64; rw [BitVec.toNat_ushiftRight, Nat.shiftRight_eq_div_pow]; omega
      have t1 : decide (0 < U64 y) = true := by simp [hy0]
      have t2 := shr7 y
      have hlen := uintF_pos i (cur >>> 7)
      have hrel2 : ∀ wr', wr' = wr → ∃ (j n' : Nat) (cur y' : BitVec 64), Value.int .i64 ((n : Int) + 1) = .int .i64 n' ∧ Value.int .u64 (U64 (y >>> 7)) = .int .u64 (U64 y') ∧ Hid (y' = cur >>> 7) ∧ Hid (n' + (uintF j cur).length = L + 1) ∧ Hid (cur.toNat < 2 ^ (7 * j + 1)) ∧ 1 ≤ n' ∧ n' ≤ L ∧ wr' = wr := fun wr' hw =>
        ⟨i, n + 1, cur >>> 7, y >>> 7, by congr 1, rfl, Lib.hid (by rw [hy.out]), Lib.hid (by have := hn.out; omega), Lib.hid h2, by omega, by have := hn.out; omega, hw⟩
      have HR := Lib.hid hrel2
      have b1 : (n : Int) ≤ 10 := by omega
      have b2 : (0 : Int) ≤ (n : Int) := by omega
      have hmeas : U64 (y >>> 7) < U64 y := by
        rw [← t2]; omega
      clear hrel2 h1 h2 hlen hn hj hlt hy
      go_wp2_with fail
      go_roundw
      case rel =>
        obtain ⟨a, b, c, d, e1, e2, e3, e4, e5, e6, e7, e8⟩ := HR.out wr rfl
        exact ⟨a, b, c, d, e1, e2, e3, e4, e5, e6, e7, trivial⟩
      case measure => first | (first | (simp [intOf]; done) | (simp [intOf]; omega)) | (simp [intOf]; have := U64_lo (y >>> 7); omega)
theorem short_walk (w : World) (v : Int) (_wv : (Lit.int .u64 v).wf = true) (cut : Int) (_wc : (Lit.int .i64 cut).wf = true) : Calls Try.prog 4 #[.int .u64 v, .int .i64 cut] w (TruP (.bool true) w) := by
  have hb : -9223372036854775808 ≤ cut ∧ cut ≤ 9223372036854775807 := by
    simp [Lit.wf, IntKind.min, IntKind.max, IntKind.bits, IntKind.signed] at _wc
    omega
  have hv : 0 ≤ v ∧ v ≤ 18446744073709551615 := by
    simp [Lit.wf, IntKind.min, IntKind.max, IntKind.bits, IntKind.signed] at _wv
    omega
  have e := U64_of hv.1 (by omega)
  rw [e]
  exact short_ok w _ cut hb.1 hb.2
end Go.Proofs.Yteefcimepdbehaa
namespace Go.Proofs.Yteefcimepdbehaa.codeShort
open Go.ChangeShapes Go.WideShapes Go.ChangeAt Go.RowKit
open Go.ChangeMaps (open_string shut_string)
set_option linter.unusedVariables false
set_option maxRecDepth 100000 in
theorem lifted (os : Os) (started : os.Started) (H : Type) (enc : TypeId × Value → H) :
    ReturnsInHanded {} Try.checked os 4 .any (Rows.codeShortSpec.pre6 enc Try.prog Try.f4 Rows.codeShortRow.domain false) (Rows.codeShortSpec.post enc Try.prog Try.f4 false true false false) := by
  refine returnsInHanded_of_change (C := Try.checked) own started (by kernel_rfl) Try.func4
    (ChangeSpec.witness6 (enc := enc) (C := Try.checked) false ⟨#[], #[.int .u64 0, .int .i64 0], []⟩ 8 (by kernel_rfl) (by kernel_rfl) (by kernel_rfl) (by kernel_rfl)) ?_
  intro W base args ds gs before hval0 hW hcnd _
  have hval : ∀ (j : Nat) t v, Try.f4.params[j]? = some t → args[j]? = some v → Value.okWide Try.prog W .any base t v := hval0
  have hW' := hW
  obtain ⟨p, q, hA0, hV, rfl, hfz, hnd⟩ := hW
  have hA : DataW.TrodAll enc Try.prog W 0 (fun _ => true) true Try.f4.params.toList args.toList ds p := hA0
  rw [Try.params4] at hA hval
  obtain ⟨v0, vs0, d0, ds0, p0, q0, hargs, rfl, rfl, h0, r0⟩ := trodAll_cons hA
  obtain ⟨v1, vs1, d1, ds1, p1, q1, rfl, rfl, rfl, h1, r1⟩ := trodAll_cons r0
  obtain ⟨rfl, rfl, rfl⟩ := trodAll_nil r1
  obtain rfl : args = #[v0, v1] := by cases args; simp_all
  obtain ⟨rfl, rfl⟩ := trodVars_none hV
  have k0 := h0
  have lt0 : ∀ x ∈ p0, x.block < W.heap.size := by obtain ⟨m, hm⟩ := k0; exact DataW.trod_lt m _ _ _ hm
  obtain ⟨a0, e0v, _, _, w0⟩ := open_int Try.underlying29 (hval 0 29 v0 rfl rfl) h0; subst e0v
  have k1 := h1
  have lt1 : ∀ x ∈ p1, x.block < W.heap.size := by obtain ⟨m, hm⟩ := k1; exact DataW.trod_lt m _ _ _ hm
  obtain ⟨a1, e1v, _, _, w1⟩ := open_int Try.underlying3 (hval 1 3 v1 rfl rfl) h1; subst e1v
  clear hA0 hval0
  refine (short_walk W a0 w0 a1 w1).mono fun e W' ⟨he, bel⟩ => ?_
  subst he
  exact ⟨_, rfl, _, _, _, [], _, [], hW', trodAll_mk1 (shut_bool Try.underlying4 _), (trodAll_cons_mk (Below.trod laidOut (by kernel_rfl) (of_decide_eq_true (by kernel_rfl)) k0 bel lt0) (trodAll_cons_mk (Below.trod laidOut (by kernel_rfl) (of_decide_eq_true (by kernel_rfl)) k1 bel lt1) trodAll_mk0)), rfl, bel.frame _, fun h => by cases h⟩
theorem over : Rows.codeShortRow.holds Try.pinned (OpenSpec.ofChange Rows.codeShortSpec) :=
  OpenClaim.holds_of_wide 4 Try.f4 rfl rfl rfl rfl rfl rfl rfl ⟨rfl, rfl, rfl, rfl, rfl⟩ rfl rfl rfl rfl rfl (by kernel_rfl) Try.func4 (by kernel_rfl)
    (of_decide_eq_true (by kernel_rfl)) (by unfold Func.isWrapper; first | (rw [if_pos (by decide +kernel)]; kernel_rfl) | (rw [if_neg (by decide +kernel)]; exact ⟨rfl, rfl⟩))
    (fun os started H enc _ => lifted os started H enc)
theorem proved : Rows.CodeShortSaid := over
end Go.Proofs.Yteefcimepdbehaa.codeShort
