/- The law BitsBytes of layer 1 returns true for every argument. No conditions. -/
import Derived.Test.YtbiejbecocdhdaaFrame
import Derived.Test.YtbiejbecocdhdaaKnown1
import Derived.Test.YtbiejbecocdhdaaBitsF
namespace Go.Proofs.Ytbiejbecocdhdaa
open Go.RowKit
attribute [local go_sem] beqU64
theorem tru6 {b : Bool} {w w' : World} (h : b = true) (hb : Below w.heap.size w w') : TruP (.bool true) w (.returned (.bool b)) w' := ⟨by rw [h], hb⟩
theorem leN_lowN (v : BitVec 64) : ∀ n : Nat, n ≤ 8 → ∀ i, i < 64 → (leN (lowN v n)).getLsbD i = (v.getLsbD i && decide (i < 8 * n))
  | 0, _, i, _ => by simp [lowN, leN]
  | n + 1, hn, i, hi => by
    rw [lowN_snoc, leN_snoc, BitVec.getLsbD_or, leN_lowN v n (by omega) i hi, lowN_len, BitVec.getLsbD_shiftLeft]
    by_cases a : i < 8 * n
    · have b : i < 8 * (n + 1) := by omega
      simp [a, b]
    · by_cases b : i < 8 * (n + 1)
      · simp [hi, a, b, show i - 8 * n < 8 from by omega, show 8 * n + (i - 8 * n) = i from by omega, show i - 8 * n < 64 from by omega]
      · simp [hi, a, b, show ¬ i - 8 * n < 8 from by omega]
theorem putB_len (bs : List (BitVec 8)) (p n : Nat) (v : BitVec 64) (h : inB bs.length p n = true) : (putB bs p n v).length = bs.length := by
  obtain ⟨h1, h2, h3, h4⟩ := inB_out h
  unfold putB
  rw [if_pos h]
  simp [lowN_len]
  omega
theorem getB_putB (bs : List (BitVec 8)) (p n : Nat) (v : BitVec 64) (h : inB bs.length p n = true) : getB (putB bs p n v) p n = fieldB v 0 (8 * n) := by
  obtain ⟨h1, h2, h3, h4⟩ := inB_out h
  have hl := putB_len bs p n v h
  unfold getB
  rw [hl, if_pos h]
  have e : seg (putB bs p n v) p n = lowN v n := by
    unfold seg putB
    rw [if_pos h]
    have hp : (bs.take p).length = p := by simp; omega
    rw [Int.toNat_natCast, Int.toNat_natCast]
    rw [List.drop_append_of_le_length (by omega), List.drop_of_length_le (by omega), List.nil_append, List.take_append_of_le_length (by rw [lowN_len]; omega), List.take_of_length_le (by rw [lowN_len]; omega)]
  rw [e]
  have hw : wB 0 (8 * n) = true := by unfold wB; rw [decide_eq_true_eq]; omega
  apply BitVec.eq_of_getLsbD_eq
  intro i hi
  rw [leN_lowN v n (by omega) i hi, field_bit _ _ _ hw]
  simp only [Int.toNat_zero, Nat.zero_add]
  congr 1
  try (rw [decide_eq_decide]; omega)
set_option maxHeartbeats 800000
theorem bytes_walk (w : World) (A : Option Addr) (bs : List (BitVec 8)) (c : Nat) (hc : bs.length ≤ c) (_hm : c ≤ maxLen) (hr : Rd b8 w w.heap.size A bs) (p : Int) (wp : (Lit.int .i64 p).wf = true) (n : Int) (wn : (Lit.int .i64 n).wf = true) (a3 : Int) (w3 : (Lit.int .u64 a3).wf = true) :
    Calls Try.prog 3 #[.slice A bs.length c, .int .i64 p, .int .i64 n, .int .u64 a3] w (TruP (.bool true) w) := by
  obtain ⟨hn1, hn2⟩ := wf64 wn
  obtain ⟨x, rfl⟩ : ∃ x, a3 = U64 x := ⟨_, wfu64 w3⟩
  clear w3 wp wn
  by_cases hl : bs.length ≤ 1000
  · go_enter Try.func3, Try.ntmps3
    go_wp2_with fail
    refine (known_c _).mono ?_
    rintro e w1 ⟨rfl, hb1⟩
    have hr1 := hr.below hb1
    go_wp2_with fail
    refine (get_c bs A c p n _ _ hr1 (by omega)).go.mono ?_
    rintro e w2 ⟨rfl, m1, rfl⟩
    go_wp2_with fail
    refine (rget_c bs A c p n _ _ (hr1.drewN m1) (by omega)).go.mono ?_
    rintro e w2 ⟨rfl, m2, rfl⟩
    have hcv : ∀ k, (convert 22 9 (.slice A bs.length c)).run Try.prog (w1.drewN k) = .ok (.string (strB bs)) (w1.drewN k) := fun k => str_conv bs A c _ _ (hr1.drewN k)
    go_wp2_with fail
    refine (put_c bs A c p n x _ _ (hr1.drewN _) (by simpa using hb1.size) (by omega)).mono ?_
    rintro e w2 ⟨A2, c2, rfl, hc2, ho2, hb2⟩
    clear hcv
    have hB2 : Below w.heap.size w w2 := (bdrewN hb1 _).trans (hb2.mono (by simpa using hb1.size))
    go_wp2_with fail
    refine (rput_c bs A c p n x _ _ (hr.below hB2) hB2.size hc (by omega)).mono ?_
    rintro e w3 ⟨A3, c3, rfl, hc3, ho3, hb3⟩
    have hB3 : Below w.heap.size w w3 := hB2.trans (hb3.mono hB2.size)
    have hr3 : Rd b8 w3 w2.heap.size A2 (putB bs p n x) := ho2.rd.below hb3
    have hv1 := str_conv bs A c _ w3 (hr.below hB3)
    have hv2 := str_conv _ A2 c2 _ w3 hr3
    have hv3 := str_conv _ A3 c3 _ w3 ho3.rd
    clear ho2 hb2 hb3 hB2
    by_cases hin : inB bs.length p n = true
    · have he : errB bs.length p n = 0 := if_pos hin
      obtain ⟨h1, h2, h3, h4⟩ := inB_out hin
      obtain ⟨n, rfl⟩ := Int.eq_ofNat_of_zero_le (show 0 ≤ n by omega)
      obtain ⟨p, rfl⟩ := Int.eq_ofNat_of_zero_le h3
      have hlen := putB_len bs p n x hin
      have hgp := getB_putB bs p n x hin
      have he2 : (errB bs.length p n != 0) = false := by rw [he]; rfl
      have he3 : (errB (putB bs p n x).length p n == 0) = true := by rw [hlen, he]; rfl
      have he4 : (getB (putB bs p n x) p n == fieldB x 0 (8 * n)) = true := by rw [hgp]; simp
      have HL := Lib.hid hlen
      clear he hlen hgp
      go_wp2_with fail
      refine (get_c (putB bs p n x) A2 c2 p n _ _ hr3 (by rw [HL.out]; omega)).go.mono ?_
      rintro e w4 ⟨rfl, m4, rfl⟩
      go_wp2_with fail
      refine (field_c _ _ _ _).go.mono ?_
      rintro e w4 ⟨rfl, m5, rfl⟩
      go_wp2_with fail
      go_ret
      exact tru6 rfl (by first | exact hB3 | exact bdrewN hB3 _)
    · have he : errB bs.length p n = 1 := if_neg hin
      have he2 : (errB bs.length p n != 0) = true := by rw [he]; rfl
      clear he
      go_wp2_with fail
      go_ret
      exact tru6 rfl (by first | exact hB3 | exact bdrewN hB3 _)
  · go_enter Try.func3, Try.ntmps3
    go_wp2_with (go_at_call 10; refine (known_c _).mono ?_; rintro e w1 ⟨rfl, hb1⟩)
    go_ret
    exact tru6 rfl (by first | exact hb1 | exact bdrewN hb1 _)
end Go.Proofs.Ytbiejbecocdhdaa
namespace Go.Proofs.Ytbiejbecocdhdaa.bitsBytes
open Go.ChangeShapes Go.WideShapes Go.ChangeAt Go.RowKit
open Go.ChangeMaps (open_string shut_string)
set_option linter.unusedVariables false
set_option maxRecDepth 100000 in
theorem lifted (os : Os) (started : os.Started) (H : Type) (enc : TypeId × Value → H) :
    ReturnsInHanded {} Try.checked os 3 .any (Rows.bitsBytesSpec.pre6 enc Try.prog Try.f3 Rows.bitsBytesRow.domain false) (Rows.bitsBytesSpec.post enc Try.prog Try.f3 false true false false) := by
  refine returnsInHanded_of_change (C := Try.checked) own started (by kernel_rfl) Try.func3
    (ChangeSpec.witness6 (enc := enc) (C := Try.checked) false ⟨#[], #[.slice none 0 0, .int .i64 0, .int .i64 0, .int .u64 0], []⟩ 8 (by kernel_rfl) (by kernel_rfl) (by kernel_rfl) (by kernel_rfl)) ?_
  intro W base args ds gs before hval0 hW hcnd _
  have hval : ∀ (j : Nat) t v, Try.f3.params[j]? = some t → args[j]? = some v → Value.okWide Try.prog W .any base t v := hval0
  have hW' := hW
  obtain ⟨p, q, hA0, hV, rfl, hfz, hnd⟩ := hW
  have hA : DataW.TrodAll enc Try.prog W 0 (fun _ => true) true Try.f3.params.toList args.toList ds p := hA0
  rw [Try.params3] at hA hval
  obtain ⟨v0, vs0, d0, ds0, p0, q0, hargs, rfl, rfl, h0, r0⟩ := trodAll_cons hA
  obtain ⟨v1, vs1, d1, ds1, p1, q1, rfl, rfl, rfl, h1, r1⟩ := trodAll_cons r0
  obtain ⟨v2, vs2, d2, ds2, p2, q2, rfl, rfl, rfl, h2, r2⟩ := trodAll_cons r1
  obtain ⟨v3, vs3, d3, ds3, p3, q3, rfl, rfl, rfl, h3, r3⟩ := trodAll_cons r2
  obtain ⟨rfl, rfl, rfl⟩ := trodAll_nil r3
  obtain rfl : args = #[v0, v1, v2, v3] := by cases args; simp_all
  obtain ⟨rfl, rfl⟩ := trodVars_none hV
  have k0 := h0
  have lt0 : ∀ x ∈ p0, x.block < W.heap.size := by obtain ⟨m, hm⟩ := k0; exact DataW.trod_lt m _ _ _ hm
  obtain ⟨A0, a0, c0, e0v, g0, m0, w0⟩ := open_bytes Try.underlying22 Try.underlying5 (by kernel_rfl) (hval 0 22 v0 rfl rfl) h0; subst e0v
  have k1 := h1
  have lt1 : ∀ x ∈ p1, x.block < W.heap.size := by obtain ⟨m, hm⟩ := k1; exact DataW.trod_lt m _ _ _ hm
  obtain ⟨a1, e1v, _, _, w1⟩ := open_int Try.underlying3 (hval 1 3 v1 rfl rfl) h1; subst e1v
  have k2 := h2
  have lt2 : ∀ x ∈ p2, x.block < W.heap.size := by obtain ⟨m, hm⟩ := k2; exact DataW.trod_lt m _ _ _ hm
  obtain ⟨a2, e2v, _, _, w2⟩ := open_int Try.underlying3 (hval 2 3 v2 rfl rfl) h2; subst e2v
  have k3 := h3
  have lt3 : ∀ x ∈ p3, x.block < W.heap.size := by obtain ⟨m, hm⟩ := k3; exact DataW.trod_lt m _ _ _ hm
  obtain ⟨a3, e3v, _, _, w3⟩ := open_int Try.underlying23 (hval 3 23 v3 rfl rfl) h3; subst e3v
  clear hA0 hval0
  refine (bytes_walk W A0 a0 c0 g0 m0 w0 a1 w1 a2 w2 a3 w3).mono fun e W' ⟨he, bel⟩ => ?_
  subst he
  exact ⟨_, rfl, _, _, _, [], _, [], hW', trodAll_mk1 (shut_bool Try.underlying4 _), (trodAll_cons_mk (Below.trod laidOut (by kernel_rfl) (of_decide_eq_true (by kernel_rfl)) k0 bel lt0) (trodAll_cons_mk (Below.trod laidOut (by kernel_rfl) (of_decide_eq_true (by kernel_rfl)) k1 bel lt1) (trodAll_cons_mk (Below.trod laidOut (by kernel_rfl) (of_decide_eq_true (by kernel_rfl)) k2 bel lt2) (trodAll_cons_mk (Below.trod laidOut (by kernel_rfl) (of_decide_eq_true (by kernel_rfl)) k3 bel lt3) trodAll_mk0)))), rfl, bel.frame _, fun h => by cases h⟩
theorem over : Rows.bitsBytesRow.holds Try.pinned (OpenSpec.ofChange Rows.bitsBytesSpec) :=
  OpenClaim.holds_of_wide 3 Try.f3 rfl rfl rfl rfl rfl rfl rfl ⟨rfl, rfl, rfl, rfl, rfl⟩ rfl rfl rfl rfl rfl (by kernel_rfl) Try.func3 (by kernel_rfl)
    (of_decide_eq_true (by kernel_rfl)) (by unfold Func.isWrapper; first | (rw [if_pos (by decide +kernel)]; kernel_rfl) | (rw [if_neg (by decide +kernel)]; exact ⟨rfl, rfl⟩))
    (fun os started H enc _ => lifted os started H enc)
theorem proved : Rows.BitsBytesSaid := over
end Go.Proofs.Ytbiejbecocdhdaa.bitsBytes
