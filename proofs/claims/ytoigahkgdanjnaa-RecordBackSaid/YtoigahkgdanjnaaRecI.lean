/- What loamref8.Encode answers of a record that may be. Conditions: lengths. -/
import Derived.Test.YtoigahkgdanjnaaRecH
namespace Go.Proofs.Ytoigahkgdanjnaa
set_option linter.unusedVariables false
set_option linter.unusedSimpArgs false
open Go.RowKit
set_option maxRecDepth 100000
set_option maxHeartbeats 400000
/-- A record in block g, its data, and what was there ahead. -/
def RefR (w : World) (g : Nat) (k : Int) (tx : BitVec 64) (sp no : Int) (A : Option Addr) (n c : Nat) (d : List (BitVec 8)) (W : World) : Prop :=
  Bk W g 36 #[.int .i64 k, .int .u64 (U64 tx), .int .i64 sp, .int .i64 no, .slice A n c] ∧ Rd b8 W w.heap.size A d ∧ Below w.heap.size w W
theorem RefR.below {w W W' : World} {g B : Nat} {k : Int} {tx : BitVec 64} {sp no : Int} {A : Option Addr} {n c : Nat} {d : List (BitVec 8)} (h : RefR w g k tx sp no A n c d W) (hb : Below B W W') (hB : w.heap.size ≤ B) (hg : g < B) : RefR w g k tx sp no A n c d W' :=
  ⟨h.1.below hb hg, h.2.1.below (hb.mono hB), h.2.2.trans (hb.mono hB)⟩
theorem RefR.next {w W W' : World} {g : Nat} {k : Int} {tx : BitVec 64} {sp no : Int} {A : Option Addr} {n c : Nat} {d : List (BitVec 8)} (h : RefR w g k tx sp no A n c d W) (hb : Below W.heap.size W W') : RefR w g k tx sp no A n c d W' :=
  h.below hb h.2.2.size h.1.lt
theorem RefR.row {w W W' : World} {k : Int} {tx : BitVec 64} {sp no : Int} {A : Option Addr} {n c : Nat} {d : List (BitVec 8)} (h : RefR w w.heap.size k tx sp no A n c d W) (hb : Below (w.heap.size + 1) W W') : RefR w w.heap.size k tx sp no A n c d W' :=
  h.below hb (Nat.le_succ _) (Nat.lt_succ_self _)
theorem RefR.lt {w W : World} {k : Int} {tx : BitVec 64} {sp no : Int} {A : Option Addr} {n c : Nat} {d : List (BitVec 8)} (h : RefR w w.heap.size k tx sp no A n c d W) : w.heap.size + 1 ≤ W.heap.size := h.1.lt
theorem rencode_ok0 (k : Nat) (tx : BitVec 64) (sp no : Nat) (A : Option Addr) (d : List (BitVec 8)) (c : Nat) (w : World) (h : ¬ badR k sp no) (hj : k = 1 ∧ sp = 0) (hd : d.length ≤ 4096) (hr : Rd b8 w w.heap.size A d) : Calls Try.prog 9 #[recV k tx sp no A d.length c] w (EncoP (encRL k tx sp no d) w) := by
  obtain ⟨n, hn⟩ : ∃ n, n = d.length := ⟨_, rfl⟩
  have q2 : (k : Int) ≤ 3 := by unfold badR at h; omega
  have q4 : (sp : Int) ≤ 1 := by unfold badR at h; omega
  have q6 : (no : Int) ≤ 65535 := by unfold badR at h; omega
  have hn4 : (n : Int) ≤ 4096 := by omega
  have q1 : (1 : Int) ≤ (k : Int) := by unfold badR at h; omega
  have hlen := Lib.hid (show (uintL (BitVec.ofNat 64 k)).length ≤ 10 ∧ (uintL tx).length ≤ 10 ∧ (uintL (BitVec.ofNat 64 sp)).length ≤ 10 ∧ (uintL (BitVec.ofNat 64 no)).length ≤ 10 ∧ (rawL d).length ≤ 10 + d.length from ⟨uintF_len 9 _, uintF_len 9 _, uintF_len 9 _, uintF_len 9 _, rawL_len d⟩)
  have HR0 := Lib.hid (show RefR w w.heap.size k tx sp no A n c d (w.alloc (.cells #[.int .i64 (k : Int), .int .u64 (U64 tx), .int .i64 (sp : Int), .int .i64 (no : Int), .slice A n c] 36)) from ⟨Bk.new w _ _, hr.alloc (Nat.le_refl _) _, Gw.alloc w _⟩)
  obtain ⟨c0, c1, c2, c3, c4⟩ := HR0.out.1.five
  have hkw := Lib.hid (show IntKind.u64.wrap (no : Int) = (no : Int) from by simp [IntKind.wrap, IntKind.bits, IntKind.signed]; omega)
  have HRaw := Lib.hid (show ∀ W, Rd b8 W W.heap.size A d → Calls Try.prog 21 #[.slice A d.length c] W (MkP b8 5 (rawL d) W) from fun W q => ref_raw W A c d q (by omega))
  rw [← hn] at HRaw
  have HN := Lib.hid hn
  have HD := Lib.hid hd
  rw [← hn]
  unfold recV
  clear h hn hd hr
  obtain ⟨rfl, rfl⟩ := hj
  go_enter Try.func9, Try.ntmps9
  go_wp2_with fail
  have R0 := Lib.hid (HR0.out.next (Gw.drew _))
  refine region_by_spine [3, 6, 7, 8] [(0, 58, .pointer (some ⟨w.heap.size, 0, none⟩)), (1, 59, .int .i64 1), (2, 60, .int .u64 1), (4, 62, .pointer (some ⟨w.heap.size, 1, none⟩)), (5, 63, .int .u64 (U64 tx))] (RefR w w.heap.size 1 tx 0 (no : Int) A n c d) (by kernel_rfl) (by kernel_rfl) (by kernel_rfl) (by kernel_rfl) (by kernel_rfl) R0.out ?_ ?_
  · intro x hx W1 ρ hW1 hρ hcst
    obtain ⟨c0, c1, c2, c3, c4⟩ := hW1.1.five
    have e1 : ρ (.tmp 1) = .pointer (some ⟨w.heap.size, 0, none⟩) := (hρ 1).trans (by kernel_rfl)
    have e58 : ρ (.tmp 58) = .pointer (some ⟨w.heap.size, 0, none⟩) := (hρ 58).trans (by kernel_rfl)
    have e59 : ρ (.tmp 59) = .int .i64 1 := (hρ 59).trans (by kernel_rfl)
    have e62 : ρ (.tmp 62) = .pointer (some ⟨w.heap.size, 1, none⟩) := (hρ 62).trans (by kernel_rfl)
    clear hρ hW1
    simp only [List.mem_cons, List.not_mem_nil, or_false] at hx
    rcases hx with rfl | rfl | rfl | rfl | rfl
    all_goals
      refine ⟨_, rfl, ?_⟩
      go_simp
      try (first | rfl | exact hkw.out)
  simp only [putA, putD, Act.put, List.setIfInBounds_toArray, List.set_cons_zero, List.set_cons_succ]
  refine spine_list rfl rfl rfl ?_
  go_wp2_with fail
  refine Calls.mono (ref_uint_nat _ 1 (by decide)) ?_
  rintro e w1 ⟨A1, k1, rfl, hk1, ho1, b1⟩
  have R1 := Lib.hid (R0.out.next b1)
  obtain ⟨m1, hm1⟩ : ∃ m, m = (uintL (BitVec.ofNat 64 1)).length := ⟨_, rfl⟩
  have O1 := Lib.hid (ho1.mono (b := w.heap.size + 1) (by simp))
  rw [← hm1] at O1 ⊢
  clear ho1 hm1 b1 hk1 c0 c1 c2 c3 c4 R0
  go_wp2_with fail
  refine ⟨rfl, R1.out, ?_⟩
  refine spine_list rfl rfl rfl ?_
  go_wp2_with fail
  refine Calls.mono (ref_uint _ tx) ?_
  rintro e w2 ⟨A2, k2, rfl, hk2, ho2, b2⟩
  have R2 := Lib.hid (R1.out.next b2)
  have O2 := Lib.hid (O1.out.below b2)
  have D2 := Lib.hid ho2.rd
  obtain ⟨m2, hm2⟩ : ∃ m, m = (uintL tx).length := ⟨_, rfl⟩
  have M2 := Lib.hid hm2
  rw [← hm2]
  clear ho2 hm2 b2 hk2 R1 O1
  go_wp2_with fail
  refine ⟨rfl, R2.out, ?_⟩
  refine spine_list rfl rfl rfl ?_
  refine wp_app one8 b8_one rfl (.tmp 61) (.tmp 64) rfl (w.heap.size + 1) _ (uintL (BitVec.ofNat 64 1)) rfl O2.out A2 m2 k2 (uintL tx) rfl M2.out _ D2.out (by have := hlen.out; omega) (by decide) R2.out.lt ?_
  intro v3 w3 ho3 hb3 _ _
  obtain ⟨A3, k3, rfl, hk3⟩ := ho3.form
  obtain ⟨m3, hm3⟩ : ∃ m, m = (uintL (BitVec.ofNat 64 1) ++ uintL tx).length := ⟨_, rfl⟩
  have O3 := Lib.hid ho3
  have R3 := Lib.hid (R2.out.row hb3)
  have M3 := Lib.hid hm3
  rw [← hm3] at O3 ⊢
  clear ho3 hb3 hk3 hm3
  refine ⟨rfl, R3.out, ?_⟩
  refine spine_list rfl rfl rfl ?_
  go_wp2_with fail
  refine ⟨rfl, R3.out, ?_⟩
  unfold SpineW
  clear R2 O2 D2 M2
  obtain ⟨c0, c1, c2, c3, c4⟩ := R3.out.1.five
  go_wp2_with fail
  refine region_by_spine [5, 6, 11, 12, 13] [(0, 69, .slice A3 m3 k3), (1, 70, .pointer (some ⟨w.heap.size, 2, none⟩)), (2, 71, .pointer (some ⟨w.heap.size, 2, none⟩)), (3, 72, .int .i64 0), (4, 73, .int .u64 0), (7, 76, .pointer (some ⟨w.heap.size, 2, none⟩)), (8, 77, .pointer (some ⟨w.heap.size, 3, none⟩)), (9, 78, .int .i64 (no : Int)), (10, 79, .int .u64 (no : Int))] (RefR w w.heap.size 1 tx 0 (no : Int) A n c d) (by kernel_rfl) (by kernel_rfl) (by kernel_rfl) (by kernel_rfl) (by kernel_rfl) (R3.out.next (Gw.drew _)) ?_ ?_
  · intro x hx W1 ρ hW1 hρ hcst
    obtain ⟨c0, c1, c2, c3, c4⟩ := hW1.1.five
    have e1 : ρ (.tmp 1) = .pointer (some ⟨w.heap.size, 0, none⟩) := (hρ 1).trans (by kernel_rfl)
    have e4 : ρ (.tmp 4) = .slice A3 m3 k3 := (hρ 4).trans (by kernel_rfl)
    have e70 : ρ (.tmp 70) = .pointer (some ⟨w.heap.size, 2, none⟩) := (hρ 70).trans (by kernel_rfl)
    have e71 : ρ (.tmp 71) = .pointer (some ⟨w.heap.size, 2, none⟩) := (hρ 71).trans (by kernel_rfl)
    have e72 : ρ (.tmp 72) = .int .i64 0 := (hρ 72).trans (by kernel_rfl)
    have e76 : ρ (.tmp 76) = .pointer (some ⟨w.heap.size, 2, none⟩) := (hρ 76).trans (by kernel_rfl)
    have e77 : ρ (.tmp 77) = .pointer (some ⟨w.heap.size, 3, none⟩) := (hρ 77).trans (by kernel_rfl)
    have e78 : ρ (.tmp 78) = .int .i64 (no : Int) := (hρ 78).trans (by kernel_rfl)
    clear hρ hW1
    simp only [List.mem_cons, List.not_mem_nil, or_false] at hx
    rcases hx with rfl | rfl | rfl | rfl | rfl | rfl | rfl | rfl | rfl
    all_goals
      refine ⟨_, rfl, ?_⟩
      go_simp
      try (first | rfl | exact hkw.out)
  simp only [putA, putD, Act.put, List.setIfInBounds_toArray, List.set_cons_zero, List.set_cons_succ]
  have R3' := Lib.hid (R3.out.next (Gw.drew _))
  refine spine_list rfl rfl rfl ?_
  go_wp2_with fail
  refine Calls.mono (ref_uint_nat _ 0 (by omega)) ?_
  rintro e w4 ⟨A4, k4, rfl, hk4, ho4, b4⟩
  have R4 := Lib.hid (R3'.out.next b4)
  have O4 := Lib.hid ((Ow.drewN O3.out 1).below b4)
  have D4 := Lib.hid ho4.rd
  obtain ⟨m4, hm4⟩ : ∃ m, m = (uintL (BitVec.ofNat 64 0)).length := ⟨_, rfl⟩
  have M4 := Lib.hid hm4
  rw [← hm4]
  clear ho4 hm4 b4 hk4 R3 R3' O3 c0 c1 c2 c3 c4
  go_wp2_with fail
  refine ⟨rfl, R4.out, ?_⟩
  refine spine_list rfl rfl rfl ?_
  refine wp_app one8 b8_one rfl (.tmp 69) (.tmp 74) rfl (w.heap.size + 1) _ (uintL (BitVec.ofNat 64 1) ++ uintL tx) rfl O4.out A4 m4 k4 (uintL (BitVec.ofNat 64 0)) rfl M4.out _ D4.out (by have := hlen.out; rw [List.length_append]; omega) (by decide) R4.out.lt ?_
  intro v5 w5 ho5 hb5 _ _
  obtain ⟨A5, k5, rfl, hk5⟩ := ho5.form
  obtain ⟨m5, hm5⟩ : ∃ m, m = ((uintL (BitVec.ofNat 64 1) ++ uintL tx) ++ uintL (BitVec.ofNat 64 0)).length := ⟨_, rfl⟩
  have O5 := Lib.hid ho5
  have R5 := Lib.hid (R4.out.row hb5)
  rw [← hm5] at O5 ⊢
  clear ho5 hb5 hk5 hm5
  refine ⟨rfl, R5.out, ?_⟩
  clear R4 O4 D4 M4
  refine spine_list rfl rfl rfl ?_
  go_wp2_with fail
  refine Calls.mono (ref_uint_nat _ no (by omega)) ?_
  rintro e w6 ⟨A6, k6, rfl, hk6, ho6, b6⟩
  have R6 := Lib.hid (R5.out.next b6)
  have O6 := Lib.hid (O5.out.below b6)
  have D6 := Lib.hid ho6.rd
  obtain ⟨m6, hm6⟩ : ∃ m, m = (uintL (BitVec.ofNat 64 no)).length := ⟨_, rfl⟩
  have M6 := Lib.hid hm6
  rw [← hm6]
  clear ho6 hm6 b6 hk6 R5 O5
  go_wp2_with fail
  refine ⟨rfl, R6.out, ?_⟩
  refine spine_list rfl rfl rfl ?_
  refine wp_app one8 b8_one rfl (.tmp 75) (.tmp 80) rfl (w.heap.size + 1) _ ((uintL (BitVec.ofNat 64 1) ++ uintL tx) ++ uintL (BitVec.ofNat 64 0)) rfl O6.out A6 m6 k6 (uintL (BitVec.ofNat 64 no)) rfl M6.out _ D6.out (by have := hlen.out; rw [List.length_append, List.length_append]; omega) (by decide) R6.out.lt ?_
  intro v7 w7 ho7 hb7 _ _
  obtain ⟨A7, k7, rfl, hk7⟩ := ho7.form
  obtain ⟨m7, hm7⟩ : ∃ m, m = (((uintL (BitVec.ofNat 64 1) ++ uintL tx) ++ uintL (BitVec.ofNat 64 0)) ++ uintL (BitVec.ofNat 64 no)).length := ⟨_, rfl⟩
  have O7 := Lib.hid ho7
  have R7 := Lib.hid (R6.out.row hb7)
  rw [← hm7] at O7 ⊢
  clear ho7 hb7 hk7 hm7
  refine ⟨rfl, R7.out, ?_⟩
  refine spine_list rfl rfl rfl ?_
  go_wp2_with fail
  refine ⟨rfl, R7.out, ?_⟩
  unfold SpineW
  clear R6 O6 D6 M6
  obtain ⟨c0, c1, c2, c3, c4⟩ := R7.out.1.five
  obtain ⟨Lb, hLb⟩ : ∃ L, L = ((uintL (BitVec.ofNat 64 1) ++ uintL tx) ++ uintL (BitVec.ofNat 64 0)) ++ uintL (BitVec.ofNat 64 no) := ⟨_, rfl⟩
  have HBD := Lib.hid (show bodyL 1 tx 0 no d = Lb ++ rawL d from by rw [hLb]; unfold bodyL; simp)
  have HLL := Lib.hid (show Lb.length ≤ 40 from by rw [hLb]; have := hlen.out; simp only [List.length_append]; omega)
  rw [← hLb] at O7
  clear hLb
  go_wp2_with fail
  refine Calls.mono (HRaw.out _ (R7.out.2.1.more R7.out.2.2.size)) ?_
  rintro e w8 ⟨A8, k8, rfl, hk8, ho8, b8'⟩
  have R8 := Lib.hid (R7.out.next b8')
  have O8 := Lib.hid (O7.out.below b8')
  have D8 := Lib.hid (show Rd b8 w8 w8.heap.size A8 (rawL d) from ho8.rd)
  obtain ⟨m8, hm8⟩ : ∃ m, m = (rawL d).length := ⟨_, rfl⟩
  have M8 := Lib.hid hm8
  rw [← hm8]
  clear ho8 hm8 b8' hk8 R7 O7 c0 c1 c2 c3 c4
  have HLA := Lib.hid (show (Lb ++ rawL d).length ≤ 4200 from by have := hlen.out; have := HLL.out; have := HD.out; rw [List.length_append]; omega)
  go_wp2_with (at_builtin; refine wp_app one8 b8_one rfl (.tmp 82) (.tmp 85) rfl (w.heap.size + 1) _ Lb rfl O8.out A8 m8 k8 (rawL d) rfl M8.out _ D8.out (by have := HLA.out; rw [List.length_append] at this; omega) (by decide) R8.out.lt ?_; intro v9 w9 ho9 hb9 _ _; obtain ⟨A9, k9, rfl, hk9⟩ := ho9.form; obtain ⟨m9, hm9⟩ : ∃ m, m = (Lb ++ rawL d).length := ⟨_, rfl⟩; have O9 := Lib.hid ho9; have D9 := Lib.hid ho9.rd; have R9 := Lib.hid (R8.out.row hb9); have M9 := Lib.hid hm9; rw [← hm9] at O9 ⊢; clear ho9 hb9 hk9 hm9)
  obtain ⟨BL, hBL⟩ : ∃ L, L = Lb ++ rawL d := ⟨_, rfl⟩
  rw [← hBL] at HBD HLA O9 D9 M9
  clear hBL R8 O8 D8 M8
  have S9 := Lib.hid (rsum_c BL A9 k9 _ w9 D9.out (by have := HLA.out; omega))
  rw [← M9.out] at S9
  refine Calls.mono S9.out ?_
  rintro e w10 ⟨rfl, rfl⟩
  go_wp2_with fail
  refine Calls.mono (rlow_c _ _) ?_
  rintro e w11 ⟨A11, k11, rfl, hk11, ho11, b11⟩
  have R11 := Lib.hid (R9.out.next b11)
  have O11 := Lib.hid (O9.out.below b11)
  have D11 := Lib.hid ho11.rd
  have e4 : (tailL (addC 0#32 BL)).length = 4 := rfl
  rw [e4]
  clear e4 ho11 b11 hk11 R9 O9 D9 S9
  go_wp2_with (at_builtin; refine wp_app one8 b8_one rfl (.tmp 87) (.tmp 90) rfl (w.heap.size + 1) _ BL rfl O11.out A11 4 k11 (tailL (addC 0#32 BL)) rfl rfl _ D11.out (by have := HLA.out; show BL.length + 4 ≤ _; omega) (by decide) R11.out.lt ?_; intro v12 w12 ho12 hb12 _ _; obtain ⟨A12, k12, rfl, hk12⟩ := ho12.form; obtain ⟨m12, hm12⟩ : ∃ m, m = (BL ++ tailL (addC 0#32 BL)).length := ⟨_, rfl⟩; have D12 := Lib.hid ho12.rd; have R12 := Lib.hid (R11.out.row hb12); have M12 := Lib.hid hm12; rw [← hm12]; clear ho12 hb12 hk12 hm12)
  have HRw := Lib.hid (ref_raw w12 A12 k12 (BL ++ tailL (addC 0#32 BL)) D12.out (by have := HLA.out; rw [List.length_append]; show BL.length + 4 ≤ _; omega))
  rw [← M12.out] at HRw
  refine Calls.mono HRw.out ?_
  rintro e w13 ⟨A13, k13, rfl, hk13, ho13, b13⟩
  obtain ⟨m13, hm13⟩ : ∃ m, m = (uintL (BitVec.ofNat 64 (BL ++ tailL (addC 0#32 BL)).length) ++ (BL ++ tailL (addC 0#32 BL))).length := ⟨_, rfl⟩
  rw [← M12.out] at hm13
  rw [← hm13]
  have HF : Hid (EncoP (encRL 1 tx 0 no d) w (.returned (.tuple #[.slice A13 m13 k13, .int .i64 0])) w13) := Lib.hid (by
    have he : encRL 1 tx 0 no d = uintL (BitVec.ofNat 64 m12) ++ (BL ++ tailL (addC 0#32 BL)) := by
      unfold encRL
      rw [HBD.out, M12.out]
      rfl
    rw [he, hm13]
    exact ⟨A13, k13, rfl, hk13, ho13.rd, (R12.out.next b13).2.2, fun a e => ⟨Nat.le_trans R12.out.2.2.size (ow_addr ho13 a e).1, (ow_addr ho13 a e).2⟩⟩)
  clear hk13 ho13 b13 hm13 R11 O11 D11 D12 R12 HRw
  go_wp2_with fail
  go_ret2
  exact HF.out
theorem rencode_ok1 (k : Nat) (tx : BitVec 64) (sp no : Nat) (A : Option Addr) (d : List (BitVec 8)) (c : Nat) (w : World) (h : ¬ badR k sp no) (hj : k = 1 ∧ sp = 1) (hd : d.length ≤ 4096) (hr : Rd b8 w w.heap.size A d) : Calls Try.prog 9 #[recV k tx sp no A d.length c] w (EncoP (encRL k tx sp no d) w) := by
  obtain ⟨n, hn⟩ : ∃ n, n = d.length := ⟨_, rfl⟩
  have q2 : (k : Int) ≤ 3 := by unfold badR at h; omega
  have q4 : (sp : Int) ≤ 1 := by unfold badR at h; omega
  have q6 : (no : Int) ≤ 65535 := by unfold badR at h; omega
  have hn4 : (n : Int) ≤ 4096 := by omega
  have q1 : (1 : Int) ≤ (k : Int) := by unfold badR at h; omega
  have hlen := Lib.hid (show (uintL (BitVec.ofNat 64 k)).length ≤ 10 ∧ (uintL tx).length ≤ 10 ∧ (uintL (BitVec.ofNat 64 sp)).length ≤ 10 ∧ (uintL (BitVec.ofNat 64 no)).length ≤ 10 ∧ (rawL d).length ≤ 10 + d.length from ⟨uintF_len 9 _, uintF_len 9 _, uintF_len 9 _, uintF_len 9 _, rawL_len d⟩)
  have HR0 := Lib.hid (show RefR w w.heap.size k tx sp no A n c d (w.alloc (.cells #[.int .i64 (k : Int), .int .u64 (U64 tx), .int .i64 (sp : Int), .int .i64 (no : Int), .slice A n c] 36)) from ⟨Bk.new w _ _, hr.alloc (Nat.le_refl _) _, Gw.alloc w _⟩)
  obtain ⟨c0, c1, c2, c3, c4⟩ := HR0.out.1.five
  have hkw := Lib.hid (show IntKind.u64.wrap (no : Int) = (no : Int) from by simp [IntKind.wrap, IntKind.bits, IntKind.signed]; omega)
  have HRaw := Lib.hid (show ∀ W, Rd b8 W W.heap.size A d → Calls Try.prog 21 #[.slice A d.length c] W (MkP b8 5 (rawL d) W) from fun W q => ref_raw W A c d q (by omega))
  rw [← hn] at HRaw
  have HN := Lib.hid hn
  have HD := Lib.hid hd
  rw [← hn]
  unfold recV
  clear h hn hd hr
  obtain ⟨rfl, rfl⟩ := hj
  go_enter Try.func9, Try.ntmps9
  go_wp2_with fail
  have R0 := Lib.hid (HR0.out.next (Gw.drew _))
  refine region_by_spine [3, 6, 7, 8] [(0, 58, .pointer (some ⟨w.heap.size, 0, none⟩)), (1, 59, .int .i64 1), (2, 60, .int .u64 1), (4, 62, .pointer (some ⟨w.heap.size, 1, none⟩)), (5, 63, .int .u64 (U64 tx))] (RefR w w.heap.size 1 tx 1 (no : Int) A n c d) (by kernel_rfl) (by kernel_rfl) (by kernel_rfl) (by kernel_rfl) (by kernel_rfl) R0.out ?_ ?_
  · intro x hx W1 ρ hW1 hρ hcst
    obtain ⟨c0, c1, c2, c3, c4⟩ := hW1.1.five
    have e1 : ρ (.tmp 1) = .pointer (some ⟨w.heap.size, 0, none⟩) := (hρ 1).trans (by kernel_rfl)
    have e58 : ρ (.tmp 58) = .pointer (some ⟨w.heap.size, 0, none⟩) := (hρ 58).trans (by kernel_rfl)
    have e59 : ρ (.tmp 59) = .int .i64 1 := (hρ 59).trans (by kernel_rfl)
    have e62 : ρ (.tmp 62) = .pointer (some ⟨w.heap.size, 1, none⟩) := (hρ 62).trans (by kernel_rfl)
    clear hρ hW1
    simp only [List.mem_cons, List.not_mem_nil, or_false] at hx
    rcases hx with rfl | rfl | rfl | rfl | rfl
    all_goals
      refine ⟨_, rfl, ?_⟩
      go_simp
      try (first | rfl | exact hkw.out)
  simp only [putA, putD, Act.put, List.setIfInBounds_toArray, List.set_cons_zero, List.set_cons_succ]
  refine spine_list rfl rfl rfl ?_
  go_wp2_with fail
  refine Calls.mono (ref_uint_nat _ 1 (by decide)) ?_
  rintro e w1 ⟨A1, k1, rfl, hk1, ho1, b1⟩
  have R1 := Lib.hid (R0.out.next b1)
  obtain ⟨m1, hm1⟩ : ∃ m, m = (uintL (BitVec.ofNat 64 1)).length := ⟨_, rfl⟩
  have O1 := Lib.hid (ho1.mono (b := w.heap.size + 1) (by simp))
  rw [← hm1] at O1 ⊢
  clear ho1 hm1 b1 hk1 c0 c1 c2 c3 c4 R0
  go_wp2_with fail
  refine ⟨rfl, R1.out, ?_⟩
  refine spine_list rfl rfl rfl ?_
  go_wp2_with fail
  refine Calls.mono (ref_uint _ tx) ?_
  rintro e w2 ⟨A2, k2, rfl, hk2, ho2, b2⟩
  have R2 := Lib.hid (R1.out.next b2)
  have O2 := Lib.hid (O1.out.below b2)
  have D2 := Lib.hid ho2.rd
  obtain ⟨m2, hm2⟩ : ∃ m, m = (uintL tx).length := ⟨_, rfl⟩
  have M2 := Lib.hid hm2
  rw [← hm2]
  clear ho2 hm2 b2 hk2 R1 O1
  go_wp2_with fail
  refine ⟨rfl, R2.out, ?_⟩
  refine spine_list rfl rfl rfl ?_
  refine wp_app one8 b8_one rfl (.tmp 61) (.tmp 64) rfl (w.heap.size + 1) _ (uintL (BitVec.ofNat 64 1)) rfl O2.out A2 m2 k2 (uintL tx) rfl M2.out _ D2.out (by have := hlen.out; omega) (by decide) R2.out.lt ?_
  intro v3 w3 ho3 hb3 _ _
  obtain ⟨A3, k3, rfl, hk3⟩ := ho3.form
  obtain ⟨m3, hm3⟩ : ∃ m, m = (uintL (BitVec.ofNat 64 1) ++ uintL tx).length := ⟨_, rfl⟩
  have O3 := Lib.hid ho3
  have R3 := Lib.hid (R2.out.row hb3)
  have M3 := Lib.hid hm3
  rw [← hm3] at O3 ⊢
  clear ho3 hb3 hk3 hm3
  refine ⟨rfl, R3.out, ?_⟩
  refine spine_list rfl rfl rfl ?_
  go_wp2_with fail
  refine ⟨rfl, R3.out, ?_⟩
  unfold SpineW
  clear R2 O2 D2 M2
  obtain ⟨c0, c1, c2, c3, c4⟩ := R3.out.1.five
  go_wp2_with fail
  refine region_by_spine [5, 6, 11, 12, 13] [(0, 69, .slice A3 m3 k3), (1, 70, .pointer (some ⟨w.heap.size, 2, none⟩)), (2, 71, .pointer (some ⟨w.heap.size, 2, none⟩)), (3, 72, .int .i64 1), (4, 73, .int .u64 1), (7, 76, .pointer (some ⟨w.heap.size, 2, none⟩)), (8, 77, .pointer (some ⟨w.heap.size, 3, none⟩)), (9, 78, .int .i64 (no : Int)), (10, 79, .int .u64 (no : Int))] (RefR w w.heap.size 1 tx 1 (no : Int) A n c d) (by kernel_rfl) (by kernel_rfl) (by kernel_rfl) (by kernel_rfl) (by kernel_rfl) (R3.out.next (Gw.drew _)) ?_ ?_
  · intro x hx W1 ρ hW1 hρ hcst
    obtain ⟨c0, c1, c2, c3, c4⟩ := hW1.1.five
    have e1 : ρ (.tmp 1) = .pointer (some ⟨w.heap.size, 0, none⟩) := (hρ 1).trans (by kernel_rfl)
    have e4 : ρ (.tmp 4) = .slice A3 m3 k3 := (hρ 4).trans (by kernel_rfl)
    have e70 : ρ (.tmp 70) = .pointer (some ⟨w.heap.size, 2, none⟩) := (hρ 70).trans (by kernel_rfl)
    have e71 : ρ (.tmp 71) = .pointer (some ⟨w.heap.size, 2, none⟩) := (hρ 71).trans (by kernel_rfl)
    have e72 : ρ (.tmp 72) = .int .i64 1 := (hρ 72).trans (by kernel_rfl)
    have e76 : ρ (.tmp 76) = .pointer (some ⟨w.heap.size, 2, none⟩) := (hρ 76).trans (by kernel_rfl)
    have e77 : ρ (.tmp 77) = .pointer (some ⟨w.heap.size, 3, none⟩) := (hρ 77).trans (by kernel_rfl)
    have e78 : ρ (.tmp 78) = .int .i64 (no : Int) := (hρ 78).trans (by kernel_rfl)
    clear hρ hW1
    simp only [List.mem_cons, List.not_mem_nil, or_false] at hx
    rcases hx with rfl | rfl | rfl | rfl | rfl | rfl | rfl | rfl | rfl
    all_goals
      refine ⟨_, rfl, ?_⟩
      go_simp
      try (first | rfl | exact hkw.out)
  simp only [putA, putD, Act.put, List.setIfInBounds_toArray, List.set_cons_zero, List.set_cons_succ]
  have R3' := Lib.hid (R3.out.next (Gw.drew _))
  refine spine_list rfl rfl rfl ?_
  go_wp2_with fail
  refine Calls.mono (ref_uint_nat _ 1 (by omega)) ?_
  rintro e w4 ⟨A4, k4, rfl, hk4, ho4, b4⟩
  have R4 := Lib.hid (R3'.out.next b4)
  have O4 := Lib.hid ((Ow.drewN O3.out 1).below b4)
  have D4 := Lib.hid ho4.rd
  obtain ⟨m4, hm4⟩ : ∃ m, m = (uintL (BitVec.ofNat 64 1)).length := ⟨_, rfl⟩
  have M4 := Lib.hid hm4
  rw [← hm4]
  clear ho4 hm4 b4 hk4 R3 R3' O3 c0 c1 c2 c3 c4
  go_wp2_with fail
  refine ⟨rfl, R4.out, ?_⟩
  refine spine_list rfl rfl rfl ?_
  refine wp_app one8 b8_one rfl (.tmp 69) (.tmp 74) rfl (w.heap.size + 1) _ (uintL (BitVec.ofNat 64 1) ++ uintL tx) rfl O4.out A4 m4 k4 (uintL (BitVec.ofNat 64 1)) rfl M4.out _ D4.out (by have := hlen.out; rw [List.length_append]; omega) (by decide) R4.out.lt ?_
  intro v5 w5 ho5 hb5 _ _
  obtain ⟨A5, k5, rfl, hk5⟩ := ho5.form
  obtain ⟨m5, hm5⟩ : ∃ m, m = ((uintL (BitVec.ofNat 64 1) ++ uintL tx) ++ uintL (BitVec.ofNat 64 1)).length := ⟨_, rfl⟩
  have O5 := Lib.hid ho5
  have R5 := Lib.hid (R4.out.row hb5)
  rw [← hm5] at O5 ⊢
  clear ho5 hb5 hk5 hm5
  refine ⟨rfl, R5.out, ?_⟩
  clear R4 O4 D4 M4
  refine spine_list rfl rfl rfl ?_
  go_wp2_with fail
  refine Calls.mono (ref_uint_nat _ no (by omega)) ?_
  rintro e w6 ⟨A6, k6, rfl, hk6, ho6, b6⟩
  have R6 := Lib.hid (R5.out.next b6)
  have O6 := Lib.hid (O5.out.below b6)
  have D6 := Lib.hid ho6.rd
  obtain ⟨m6, hm6⟩ : ∃ m, m = (uintL (BitVec.ofNat 64 no)).length := ⟨_, rfl⟩
  have M6 := Lib.hid hm6
  rw [← hm6]
  clear ho6 hm6 b6 hk6 R5 O5
  go_wp2_with fail
  refine ⟨rfl, R6.out, ?_⟩
  refine spine_list rfl rfl rfl ?_
  refine wp_app one8 b8_one rfl (.tmp 75) (.tmp 80) rfl (w.heap.size + 1) _ ((uintL (BitVec.ofNat 64 1) ++ uintL tx) ++ uintL (BitVec.ofNat 64 1)) rfl O6.out A6 m6 k6 (uintL (BitVec.ofNat 64 no)) rfl M6.out _ D6.out (by have := hlen.out; rw [List.length_append, List.length_append]; omega) (by decide) R6.out.lt ?_
  intro v7 w7 ho7 hb7 _ _
  obtain ⟨A7, k7, rfl, hk7⟩ := ho7.form
  obtain ⟨m7, hm7⟩ : ∃ m, m = (((uintL (BitVec.ofNat 64 1) ++ uintL tx) ++ uintL (BitVec.ofNat 64 1)) ++ uintL (BitVec.ofNat 64 no)).length := ⟨_, rfl⟩
  have O7 := Lib.hid ho7
  have R7 := Lib.hid (R6.out.row hb7)
  rw [← hm7] at O7 ⊢
  clear ho7 hb7 hk7 hm7
  refine ⟨rfl, R7.out, ?_⟩
  refine spine_list rfl rfl rfl ?_
  go_wp2_with fail
  refine ⟨rfl, R7.out, ?_⟩
  unfold SpineW
  clear R6 O6 D6 M6
  obtain ⟨c0, c1, c2, c3, c4⟩ := R7.out.1.five
  obtain ⟨Lb, hLb⟩ : ∃ L, L = ((uintL (BitVec.ofNat 64 1) ++ uintL tx) ++ uintL (BitVec.ofNat 64 1)) ++ uintL (BitVec.ofNat 64 no) := ⟨_, rfl⟩
  have HBD := Lib.hid (show bodyL 1 tx 1 no d = Lb ++ rawL d from by rw [hLb]; unfold bodyL; simp)
  have HLL := Lib.hid (show Lb.length ≤ 40 from by rw [hLb]; have := hlen.out; simp only [List.length_append]; omega)
  rw [← hLb] at O7
  clear hLb
  go_wp2_with fail
  refine Calls.mono (HRaw.out _ (R7.out.2.1.more R7.out.2.2.size)) ?_
  rintro e w8 ⟨A8, k8, rfl, hk8, ho8, b8'⟩
  have R8 := Lib.hid (R7.out.next b8')
  have O8 := Lib.hid (O7.out.below b8')
  have D8 := Lib.hid (show Rd b8 w8 w8.heap.size A8 (rawL d) from ho8.rd)
  obtain ⟨m8, hm8⟩ : ∃ m, m = (rawL d).length := ⟨_, rfl⟩
  have M8 := Lib.hid hm8
  rw [← hm8]
  clear ho8 hm8 b8' hk8 R7 O7 c0 c1 c2 c3 c4
  have HLA := Lib.hid (show (Lb ++ rawL d).length ≤ 4200 from by have := hlen.out; have := HLL.out; have := HD.out; rw [List.length_append]; omega)
  go_wp2_with (at_builtin; refine wp_app one8 b8_one rfl (.tmp 82) (.tmp 85) rfl (w.heap.size + 1) _ Lb rfl O8.out A8 m8 k8 (rawL d) rfl M8.out _ D8.out (by have := HLA.out; rw [List.length_append] at this; omega) (by decide) R8.out.lt ?_; intro v9 w9 ho9 hb9 _ _; obtain ⟨A9, k9, rfl, hk9⟩ := ho9.form; obtain ⟨m9, hm9⟩ : ∃ m, m = (Lb ++ rawL d).length := ⟨_, rfl⟩; have O9 := Lib.hid ho9; have D9 := Lib.hid ho9.rd; have R9 := Lib.hid (R8.out.row hb9); have M9 := Lib.hid hm9; rw [← hm9] at O9 ⊢; clear ho9 hb9 hk9 hm9)
  obtain ⟨BL, hBL⟩ : ∃ L, L = Lb ++ rawL d := ⟨_, rfl⟩
  rw [← hBL] at HBD HLA O9 D9 M9
  clear hBL R8 O8 D8 M8
  have S9 := Lib.hid (rsum_c BL A9 k9 _ w9 D9.out (by have := HLA.out; omega))
  rw [← M9.out] at S9
  refine Calls.mono S9.out ?_
  rintro e w10 ⟨rfl, rfl⟩
  go_wp2_with fail
  refine Calls.mono (rlow_c _ _) ?_
  rintro e w11 ⟨A11, k11, rfl, hk11, ho11, b11⟩
  have R11 := Lib.hid (R9.out.next b11)
  have O11 := Lib.hid (O9.out.below b11)
  have D11 := Lib.hid ho11.rd
  have e4 : (tailL (addC 0#32 BL)).length = 4 := rfl
  rw [e4]
  clear e4 ho11 b11 hk11 R9 O9 D9 S9
  go_wp2_with (at_builtin; refine wp_app one8 b8_one rfl (.tmp 87) (.tmp 90) rfl (w.heap.size + 1) _ BL rfl O11.out A11 4 k11 (tailL (addC 0#32 BL)) rfl rfl _ D11.out (by have := HLA.out; show BL.length + 4 ≤ _; omega) (by decide) R11.out.lt ?_; intro v12 w12 ho12 hb12 _ _; obtain ⟨A12, k12, rfl, hk12⟩ := ho12.form; obtain ⟨m12, hm12⟩ : ∃ m, m = (BL ++ tailL (addC 0#32 BL)).length := ⟨_, rfl⟩; have D12 := Lib.hid ho12.rd; have R12 := Lib.hid (R11.out.row hb12); have M12 := Lib.hid hm12; rw [← hm12]; clear ho12 hb12 hk12 hm12)
  have HRw := Lib.hid (ref_raw w12 A12 k12 (BL ++ tailL (addC 0#32 BL)) D12.out (by have := HLA.out; rw [List.length_append]; show BL.length + 4 ≤ _; omega))
  rw [← M12.out] at HRw
  refine Calls.mono HRw.out ?_
  rintro e w13 ⟨A13, k13, rfl, hk13, ho13, b13⟩
  obtain ⟨m13, hm13⟩ : ∃ m, m = (uintL (BitVec.ofNat 64 (BL ++ tailL (addC 0#32 BL)).length) ++ (BL ++ tailL (addC 0#32 BL))).length := ⟨_, rfl⟩
  rw [← M12.out] at hm13
  rw [← hm13]
  have HF : Hid (EncoP (encRL 1 tx 1 no d) w (.returned (.tuple #[.slice A13 m13 k13, .int .i64 0])) w13) := Lib.hid (by
    have he : encRL 1 tx 1 no d = uintL (BitVec.ofNat 64 m12) ++ (BL ++ tailL (addC 0#32 BL)) := by
      unfold encRL
      rw [HBD.out, M12.out]
      rfl
    rw [he, hm13]
    exact ⟨A13, k13, rfl, hk13, ho13.rd, (R12.out.next b13).2.2, fun a e => ⟨Nat.le_trans R12.out.2.2.size (ow_addr ho13 a e).1, (ow_addr ho13 a e).2⟩⟩)
  clear hk13 ho13 b13 hm13 R11 O11 D11 D12 R12 HRw
  go_wp2_with fail
  go_ret2
  exact HF.out
end Go.Proofs.Ytoigahkgdanjnaa
