/- What loamref8.Encode answers of a record that may be: the other cases. Conditions: lengths. -/
import Derived.Test.YtoigahkgdanjnaaRecI
namespace Go.Proofs.Ytoigahkgdanjnaa
set_option linter.unusedVariables false
set_option linter.unusedSimpArgs false
open Go.RowKit
set_option maxRecDepth 100000
set_option maxHeartbeats 400000
theorem rencode_ok2 (k : Nat) (tx : BitVec 64) (sp no : Nat) (A : Option Addr) (d : List (BitVec 8)) (c : Nat) (w : World) (h : ¬ badR k sp no) (hj : k = 2 ∧ sp = 0 ∧ no = 0) (hd : d.length ≤ 4096) (hr : Rd b8 w w.heap.size A d) : Calls Try.prog 9 #[recV k tx sp no A d.length c] w (EncoP (encRL k tx sp no d) w) := by
  obtain ⟨n, hn⟩ : ∃ n, n = d.length := ⟨_, rfl⟩
  have q2 : (k : Int) ≤ 3 := by unfold badR at h; omega
  have q4 : (sp : Int) ≤ 1 := by unfold badR at h; omega
  have q6 : (no : Int) ≤ 65535 := by unfold badR at h; omega
  have hn4 : (n : Int) ≤ 4096 := by omega
  have q1 : (1 : Int) ≤ (k : Int) := by unfold badR at h; omega
  have hlen := Lib.hid (show (uintL (BitVec.ofNat 64 k)).length ≤ 10 ∧ (uintL tx).length ≤ 10 ∧ (uintL (BitVec.ofNat 64 sp)).length ≤ 10 ∧ (uintL (BitVec.ofNat 64 no)).length ≤ 10 ∧ (rawL d).length ≤ 10 + d.length from ⟨uintF_len 9 _, uintF_len 9 _, uintF_len 9 _, uintF_len 9 _, rawL_len d⟩)
  have HR0 := Lib.hid (show RefR w w.heap.size k tx sp no A n c d (w.alloc (.cells #[.int .i64 (k : Int), .int .u64 (U64 tx), .int .i64 (sp : Int), .int .i64 (no : Int), .slice A n c] 36)) from ⟨Bk.new w _ _, hr.alloc (Nat.le_refl _) _, Gw.alloc w _⟩)
  obtain ⟨c0, c1, c2, c3, c4⟩ := HR0.out.1.five
  have hkw := Lib.hid (show IntKind.u64.wrap (no : Int) = (no : Int) from by simp [IntKind.wrap, IntKind.bits, IntKind.signed]; omega)
  have HRaw := Lib.hid (show ∀ W, Rd b8 W W.heap.size A d → Calls Try.prog 21 #[.slice A d.length c] W (MkP b8 5 (rawL d) W) from fun W q => ref_raw W A c d q (by omega))
  rw [← hn] at HRaw
  have HN := Lib.hid hn
  have HD := Lib.hid hd
  rw [← hn]
  unfold recV
  clear h hn hd hr
  obtain ⟨rfl, rfl, rfl⟩ := hj
  go_enter Try.func9, Try.ntmps9
  go_wp2_with fail
  have R0 := Lib.hid (HR0.out.next (Gw.drew _))
  refine region_by_spine [3, 6, 7, 8] [(0, 58, .pointer (some ⟨w.heap.size, 0, none⟩)), (1, 59, .int .i64 2), (2, 60, .int .u64 2), (4, 62, .pointer (some ⟨w.heap.size, 1, none⟩)), (5, 63, .int .u64 (U64 tx))] (RefR w w.heap.size 2 tx 0 0 A n c d) (by kernel_rfl) (by kernel_rfl) (by kernel_rfl) (by kernel_rfl) (by kernel_rfl) R0.out ?_ ?_
  · intro x hx W1 ρ hW1 hρ hcst
    obtain ⟨c0, c1, c2, c3, c4⟩ := hW1.1.five
    have e1 : ρ (.tmp 1) = .pointer (some ⟨w.heap.size, 0, none⟩) := (hρ 1).trans (by kernel_rfl)
    have e58 : ρ (.tmp 58) = .pointer (some ⟨w.heap.size, 0, none⟩) := (hρ 58).trans (by kernel_rfl)
    have e59 : ρ (.tmp 59) = .int .i64 2 := (hρ 59).trans (by kernel_rfl)
    have e62 : ρ (.tmp 62) = .pointer (some ⟨w.heap.size, 1, none⟩) := (hρ 62).trans (by kernel_rfl)
    clear hρ hW1
    simp only [List.mem_cons, List.not_mem_nil, or_false] at hx
    rcases hx with rfl | rfl | rfl | rfl | rfl
    all_goals
      refine ⟨_, rfl, ?_⟩
      go_simp
      try (first | rfl | exact hkw.out)
  simp only [putA, putD, Act.put, List.setIfInBounds_toArray, List.set_cons_zero, List.set_cons_succ]
  refine spine_list rfl rfl rfl ?_
  go_wp2_with fail
  refine Calls.mono (ref_uint_nat _ 2 (by decide)) ?_
  rintro e w1 ⟨A1, k1, rfl, hk1, ho1, b1⟩
  have R1 := Lib.hid (R0.out.next b1)
  obtain ⟨m1, hm1⟩ : ∃ m, m = (uintL (BitVec.ofNat 64 2)).length := ⟨_, rfl⟩
  have O1 := Lib.hid (ho1.mono (b := w.heap.size + 1) (by simp))
  rw [← hm1] at O1 ⊢
  clear ho1 hm1 b1 hk1 c0 c1 c2 c3 c4 R0
  go_wp2_with fail
  refine ⟨rfl, R1.out, ?_⟩
  refine spine_list rfl rfl rfl ?_
  go_wp2_with fail
  refine Calls.mono (ref_uint _ tx) ?_
  rintro e w2 ⟨A2, k2, rfl, hk2, ho2, b2⟩
  have R2 := Lib.hid (R1.out.next b2)
  have O2 := Lib.hid (O1.out.below b2)
  have D2 := Lib.hid ho2.rd
  obtain ⟨m2, hm2⟩ : ∃ m, m = (uintL tx).length := ⟨_, rfl⟩
  have M2 := Lib.hid hm2
  rw [← hm2]
  clear ho2 hm2 b2 hk2 R1 O1
  go_wp2_with fail
  refine ⟨rfl, R2.out, ?_⟩
  refine spine_list rfl rfl rfl ?_
  refine wp_app one8 b8_one rfl (.tmp 61) (.tmp 64) rfl (w.heap.size + 1) _ (uintL (BitVec.ofNat 64 2)) rfl O2.out A2 m2 k2 (uintL tx) rfl M2.out _ D2.out (by have := hlen.out; omega) (by decide) R2.out.lt ?_
  intro v3 w3 ho3 hb3 _ _
  obtain ⟨A3, k3, rfl, hk3⟩ := ho3.form
  obtain ⟨m3, hm3⟩ : ∃ m, m = (uintL (BitVec.ofNat 64 2) ++ uintL tx).length := ⟨_, rfl⟩
  have O3 := Lib.hid ho3
  have R3 := Lib.hid (R2.out.row hb3)
  have M3 := Lib.hid hm3
  rw [← hm3] at O3 ⊢
  clear ho3 hb3 hk3 hm3
  refine ⟨rfl, R3.out, ?_⟩
  refine spine_list rfl rfl rfl ?_
  go_wp2_with fail
  refine ⟨rfl, R3.out, ?_⟩
  unfold SpineW
  clear R2 O2 D2 M2
  obtain ⟨c0, c1, c2, c3, c4⟩ := R3.out.1.five
  go_wp2_with fail
  obtain ⟨Lb, hLb⟩ : ∃ L, L = uintL (BitVec.ofNat 64 2) ++ uintL tx := ⟨_, rfl⟩
  have HBD := Lib.hid (show bodyL 2 tx 0 0 d = Lb ++ rawL d from by rw [hLb]; unfold bodyL; simp)
  have HLL := Lib.hid (show Lb.length ≤ 40 from by rw [hLb]; have := hlen.out; simp only [List.length_append]; omega)
  rw [← hLb] at O3
  clear hLb
  go_wp2_with fail
  refine Calls.mono (HRaw.out _ (R3.out.2.1.more R3.out.2.2.size)) ?_
  rintro e w8 ⟨A8, k8, rfl, hk8, ho8, b8'⟩
  have R8 := Lib.hid (R3.out.next b8')
  have O8 := Lib.hid (O3.out.below b8')
  have D8 := Lib.hid (show Rd b8 w8 w8.heap.size A8 (rawL d) from ho8.rd)
  obtain ⟨m8, hm8⟩ : ∃ m, m = (rawL d).length := ⟨_, rfl⟩
  have M8 := Lib.hid hm8
  rw [← hm8]
  clear ho8 hm8 b8' hk8 R3 O3 c0 c1 c2 c3 c4
  have HLA := Lib.hid (show (Lb ++ rawL d).length ≤ 4200 from by have := hlen.out; have := HLL.out; have := HD.out; rw [List.length_append]; omega)
  go_wp2_with (at_builtin; refine wp_app one8 b8_one rfl (.tmp 82) (.tmp 85) rfl (w.heap.size + 1) _ Lb rfl O8.out A8 m8 k8 (rawL d) rfl M8.out _ D8.out (by have := HLA.out; rw [List.length_append] at this; omega) (by decide) R8.out.lt ?_; intro v9 w9 ho9 hb9 _ _; obtain ⟨A9, k9, rfl, hk9⟩ := ho9.form; obtain ⟨m9, hm9⟩ : ∃ m, m = (Lb ++ rawL d).length := ⟨_, rfl⟩; have O9 := Lib.hid ho9; have D9 := Lib.hid ho9.rd; have R9 := Lib.hid (R8.out.row hb9); have M9 := Lib.hid hm9; rw [← hm9] at O9 ⊢; clear ho9 hb9 hk9 hm9)
  obtain ⟨BL, hBL⟩ : ∃ L, L = Lb ++ rawL d := ⟨_, rfl⟩
  rw [← hBL] at HBD HLA O9 D9 M9
  clear hBL R8 O8 D8 M8
  have S9 := Lib.hid (rsum_c BL A9 k9 _ w9 D9.out (by have := HLA.out; omega))
  rw [← M9.out] at S9
  refine Calls.mono S9.out ?_
  rintro e w10 ⟨rfl, rfl⟩
  go_wp2_with fail
  refine Calls.mono (rlow_c _ _) ?_
  rintro e w11 ⟨A11, k11, rfl, hk11, ho11, b11⟩
  have R11 := Lib.hid (R9.out.next b11)
  have O11 := Lib.hid (O9.out.below b11)
  have D11 := Lib.hid ho11.rd
  have e4 : (tailL (addC 0#32 BL)).length = 4 := rfl
  rw [e4]
  clear e4 ho11 b11 hk11 R9 O9 D9 S9
  go_wp2_with (at_builtin; refine wp_app one8 b8_one rfl (.tmp 87) (.tmp 90) rfl (w.heap.size + 1) _ BL rfl O11.out A11 4 k11 (tailL (addC 0#32 BL)) rfl rfl _ D11.out (by have := HLA.out; show BL.length + 4 ≤ _; omega) (by decide) R11.out.lt ?_; intro v12 w12 ho12 hb12 _ _; obtain ⟨A12, k12, rfl, hk12⟩ := ho12.form; obtain ⟨m12, hm12⟩ : ∃ m, m = (BL ++ tailL (addC 0#32 BL)).length := ⟨_, rfl⟩; have D12 := Lib.hid ho12.rd; have R12 := Lib.hid (R11.out.row hb12); have M12 := Lib.hid hm12; rw [← hm12]; clear ho12 hb12 hk12 hm12)
  have HRw := Lib.hid (ref_raw w12 A12 k12 (BL ++ tailL (addC 0#32 BL)) D12.out (by have := HLA.out; rw [List.length_append]; show BL.length + 4 ≤ _; omega))
  rw [← M12.out] at HRw
  refine Calls.mono HRw.out ?_
  rintro e w13 ⟨A13, k13, rfl, hk13, ho13, b13⟩
  obtain ⟨m13, hm13⟩ : ∃ m, m = (uintL (BitVec.ofNat 64 (BL ++ tailL (addC 0#32 BL)).length) ++ (BL ++ tailL (addC 0#32 BL))).length := ⟨_, rfl⟩
  rw [← M12.out] at hm13
  rw [← hm13]
  have HF : Hid (EncoP (encRL 2 tx 0 0 d) w (.returned (.tuple #[.slice A13 m13 k13, .int .i64 0])) w13) := Lib.hid (by
    have he : encRL 2 tx 0 0 d = uintL (BitVec.ofNat 64 m12) ++ (BL ++ tailL (addC 0#32 BL)) := by
      unfold encRL
      rw [HBD.out, M12.out]
      rfl
    rw [he, hm13]
    exact ⟨A13, k13, rfl, hk13, ho13.rd, (R12.out.next b13).2.2, fun a e => ⟨Nat.le_trans R12.out.2.2.size (ow_addr ho13 a e).1, (ow_addr ho13 a e).2⟩⟩)
  clear hk13 ho13 b13 hm13 R11 O11 D11 D12 R12 HRw
  go_wp2_with fail
  go_ret2
  exact HF.out
theorem rencode_ok3 (k : Nat) (tx : BitVec 64) (sp no : Nat) (A : Option Addr) (d : List (BitVec 8)) (c : Nat) (w : World) (h : ¬ badR k sp no) (hj : k = 3 ∧ sp = 0 ∧ no = 0) (hd : d.length ≤ 4096) (hr : Rd b8 w w.heap.size A d) : Calls Try.prog 9 #[recV k tx sp no A d.length c] w (EncoP (encRL k tx sp no d) w) := by
  obtain ⟨n, hn⟩ : ∃ n, n = d.length := ⟨_, rfl⟩
  have q2 : (k : Int) ≤ 3 := by unfold badR at h; omega
  have q4 : (sp : Int) ≤ 1 := by unfold badR at h; omega
  have q6 : (no : Int) ≤ 65535 := by unfold badR at h; omega
  have hn4 : (n : Int) ≤ 4096 := by omega
  have q1 : (1 : Int) ≤ (k : Int) := by unfold badR at h; omega
  have hlen := Lib.hid (show (uintL (BitVec.ofNat 64 k)).length ≤ 10 ∧ (uintL tx).length ≤ 10 ∧ (uintL (BitVec.ofNat 64 sp)).length ≤ 10 ∧ (uintL (BitVec.ofNat 64 no)).length ≤ 10 ∧ (rawL d).length ≤ 10 + d.length from ⟨uintF_len 9 _, uintF_len 9 _, uintF_len 9 _, uintF_len 9 _, rawL_len d⟩)
  have HR0 := Lib.hid (show RefR w w.heap.size k tx sp no A n c d (w.alloc (.cells #[.int .i64 (k : Int), .int .u64 (U64 tx), .int .i64 (sp : Int), .int .i64 (no : Int), .slice A n c] 36)) from ⟨Bk.new w _ _, hr.alloc (Nat.le_refl _) _, Gw.alloc w _⟩)
  obtain ⟨c0, c1, c2, c3, c4⟩ := HR0.out.1.five
  have hkw := Lib.hid (show IntKind.u64.wrap (no : Int) = (no : Int) from by simp [IntKind.wrap, IntKind.bits, IntKind.signed]; omega)
  have HRaw := Lib.hid (show ∀ W, Rd b8 W W.heap.size A d → Calls Try.prog 21 #[.slice A d.length c] W (MkP b8 5 (rawL d) W) from fun W q => ref_raw W A c d q (by omega))
  rw [← hn] at HRaw
  have HN := Lib.hid hn
  have HD := Lib.hid hd
  rw [← hn]
  unfold recV
  clear h hn hd hr
  obtain ⟨rfl, rfl, rfl⟩ := hj
  go_enter Try.func9, Try.ntmps9
  go_wp2_with fail
  have R0 := Lib.hid (HR0.out.next (Gw.drew _))
  refine region_by_spine [3, 6, 7, 8] [(0, 58, .pointer (some ⟨w.heap.size, 0, none⟩)), (1, 59, .int .i64 3), (2, 60, .int .u64 3), (4, 62, .pointer (some ⟨w.heap.size, 1, none⟩)), (5, 63, .int .u64 (U64 tx))] (RefR w w.heap.size 3 tx 0 0 A n c d) (by kernel_rfl) (by kernel_rfl) (by kernel_rfl) (by kernel_rfl) (by kernel_rfl) R0.out ?_ ?_
  · intro x hx W1 ρ hW1 hρ hcst
    obtain ⟨c0, c1, c2, c3, c4⟩ := hW1.1.five
    have e1 : ρ (.tmp 1) = .pointer (some ⟨w.heap.size, 0, none⟩) := (hρ 1).trans (by kernel_rfl)
    have e58 : ρ (.tmp 58) = .pointer (some ⟨w.heap.size, 0, none⟩) := (hρ 58).trans (by kernel_rfl)
    have e59 : ρ (.tmp 59) = .int .i64 3 := (hρ 59).trans (by kernel_rfl)
    have e62 : ρ (.tmp 62) = .pointer (some ⟨w.heap.size, 1, none⟩) := (hρ 62).trans (by kernel_rfl)
    clear hρ hW1
    simp only [List.mem_cons, List.not_mem_nil, or_false] at hx
    rcases hx with rfl | rfl | rfl | rfl | rfl
    all_goals
      refine ⟨_, rfl, ?_⟩
      go_simp
      try (first | rfl | exact hkw.out)
  simp only [putA, putD, Act.put, List.setIfInBounds_toArray, List.set_cons_zero, List.set_cons_succ]
  refine spine_list rfl rfl rfl ?_
  go_wp2_with fail
  refine Calls.mono (ref_uint_nat _ 3 (by decide)) ?_
  rintro e w1 ⟨A1, k1, rfl, hk1, ho1, b1⟩
  have R1 := Lib.hid (R0.out.next b1)
  obtain ⟨m1, hm1⟩ : ∃ m, m = (uintL (BitVec.ofNat 64 3)).length := ⟨_, rfl⟩
  have O1 := Lib.hid (ho1.mono (b := w.heap.size + 1) (by simp))
  rw [← hm1] at O1 ⊢
  clear ho1 hm1 b1 hk1 c0 c1 c2 c3 c4 R0
  go_wp2_with fail
  refine ⟨rfl, R1.out, ?_⟩
  refine spine_list rfl rfl rfl ?_
  go_wp2_with fail
  refine Calls.mono (ref_uint _ tx) ?_
  rintro e w2 ⟨A2, k2, rfl, hk2, ho2, b2⟩
  have R2 := Lib.hid (R1.out.next b2)
  have O2 := Lib.hid (O1.out.below b2)
  have D2 := Lib.hid ho2.rd
  obtain ⟨m2, hm2⟩ : ∃ m, m = (uintL tx).length := ⟨_, rfl⟩
  have M2 := Lib.hid hm2
  rw [← hm2]
  clear ho2 hm2 b2 hk2 R1 O1
  go_wp2_with fail
  refine ⟨rfl, R2.out, ?_⟩
  refine spine_list rfl rfl rfl ?_
  refine wp_app one8 b8_one rfl (.tmp 61) (.tmp 64) rfl (w.heap.size + 1) _ (uintL (BitVec.ofNat 64 3)) rfl O2.out A2 m2 k2 (uintL tx) rfl M2.out _ D2.out (by have := hlen.out; omega) (by decide) R2.out.lt ?_
  intro v3 w3 ho3 hb3 _ _
  obtain ⟨A3, k3, rfl, hk3⟩ := ho3.form
  obtain ⟨m3, hm3⟩ : ∃ m, m = (uintL (BitVec.ofNat 64 3) ++ uintL tx).length := ⟨_, rfl⟩
  have O3 := Lib.hid ho3
  have R3 := Lib.hid (R2.out.row hb3)
  have M3 := Lib.hid hm3
  rw [← hm3] at O3 ⊢
  clear ho3 hb3 hk3 hm3
  refine ⟨rfl, R3.out, ?_⟩
  refine spine_list rfl rfl rfl ?_
  go_wp2_with fail
  refine ⟨rfl, R3.out, ?_⟩
  unfold SpineW
  clear R2 O2 D2 M2
  obtain ⟨c0, c1, c2, c3, c4⟩ := R3.out.1.five
  go_wp2_with fail
  obtain ⟨Lb, hLb⟩ : ∃ L, L = uintL (BitVec.ofNat 64 3) ++ uintL tx := ⟨_, rfl⟩
  have HBD := Lib.hid (show bodyL 3 tx 0 0 d = Lb ++ rawL d from by rw [hLb]; unfold bodyL; simp)
  have HLL := Lib.hid (show Lb.length ≤ 40 from by rw [hLb]; have := hlen.out; simp only [List.length_append]; omega)
  rw [← hLb] at O3
  clear hLb
  go_wp2_with fail
  refine Calls.mono (HRaw.out _ (R3.out.2.1.more R3.out.2.2.size)) ?_
  rintro e w8 ⟨A8, k8, rfl, hk8, ho8, b8'⟩
  have R8 := Lib.hid (R3.out.next b8')
  have O8 := Lib.hid (O3.out.below b8')
  have D8 := Lib.hid (show Rd b8 w8 w8.heap.size A8 (rawL d) from ho8.rd)
  obtain ⟨m8, hm8⟩ : ∃ m, m = (rawL d).length := ⟨_, rfl⟩
  have M8 := Lib.hid hm8
  rw [← hm8]
  clear ho8 hm8 b8' hk8 R3 O3 c0 c1 c2 c3 c4
  have HLA := Lib.hid (show (Lb ++ rawL d).length ≤ 4200 from by have := hlen.out; have := HLL.out; have := HD.out; rw [List.length_append]; omega)
  go_wp2_with (at_builtin; refine wp_app one8 b8_one rfl (.tmp 82) (.tmp 85) rfl (w.heap.size + 1) _ Lb rfl O8.out A8 m8 k8 (rawL d) rfl M8.out _ D8.out (by have := HLA.out; rw [List.length_append] at this; omega) (by decide) R8.out.lt ?_; intro v9 w9 ho9 hb9 _ _; obtain ⟨A9, k9, rfl, hk9⟩ := ho9.form; obtain ⟨m9, hm9⟩ : ∃ m, m = (Lb ++ rawL d).length := ⟨_, rfl⟩; have O9 := Lib.hid ho9; have D9 := Lib.hid ho9.rd; have R9 := Lib.hid (R8.out.row hb9); have M9 := Lib.hid hm9; rw [← hm9] at O9 ⊢; clear ho9 hb9 hk9 hm9)
  obtain ⟨BL, hBL⟩ : ∃ L, L = Lb ++ rawL d := ⟨_, rfl⟩
  rw [← hBL] at HBD HLA O9 D9 M9
  clear hBL R8 O8 D8 M8
  have S9 := Lib.hid (rsum_c BL A9 k9 _ w9 D9.out (by have := HLA.out; omega))
  rw [← M9.out] at S9
  refine Calls.mono S9.out ?_
  rintro e w10 ⟨rfl, rfl⟩
  go_wp2_with fail
  refine Calls.mono (rlow_c _ _) ?_
  rintro e w11 ⟨A11, k11, rfl, hk11, ho11, b11⟩
  have R11 := Lib.hid (R9.out.next b11)
  have O11 := Lib.hid (O9.out.below b11)
  have D11 := Lib.hid ho11.rd
  have e4 : (tailL (addC 0#32 BL)).length = 4 := rfl
  rw [e4]
  clear e4 ho11 b11 hk11 R9 O9 D9 S9
  go_wp2_with (at_builtin; refine wp_app one8 b8_one rfl (.tmp 87) (.tmp 90) rfl (w.heap.size + 1) _ BL rfl O11.out A11 4 k11 (tailL (addC 0#32 BL)) rfl rfl _ D11.out (by have := HLA.out; show BL.length + 4 ≤ _; omega) (by decide) R11.out.lt ?_; intro v12 w12 ho12 hb12 _ _; obtain ⟨A12, k12, rfl, hk12⟩ := ho12.form; obtain ⟨m12, hm12⟩ : ∃ m, m = (BL ++ tailL (addC 0#32 BL)).length := ⟨_, rfl⟩; have D12 := Lib.hid ho12.rd; have R12 := Lib.hid (R11.out.row hb12); have M12 := Lib.hid hm12; rw [← hm12]; clear ho12 hb12 hk12 hm12)
  have HRw := Lib.hid (ref_raw w12 A12 k12 (BL ++ tailL (addC 0#32 BL)) D12.out (by have := HLA.out; rw [List.length_append]; show BL.length + 4 ≤ _; omega))
  rw [← M12.out] at HRw
  refine Calls.mono HRw.out ?_
  rintro e w13 ⟨A13, k13, rfl, hk13, ho13, b13⟩
  obtain ⟨m13, hm13⟩ : ∃ m, m = (uintL (BitVec.ofNat 64 (BL ++ tailL (addC 0#32 BL)).length) ++ (BL ++ tailL (addC 0#32 BL))).length := ⟨_, rfl⟩
  rw [← M12.out] at hm13
  rw [← hm13]
  have HF : Hid (EncoP (encRL 3 tx 0 0 d) w (.returned (.tuple #[.slice A13 m13 k13, .int .i64 0])) w13) := Lib.hid (by
    have he : encRL 3 tx 0 0 d = uintL (BitVec.ofNat 64 m12) ++ (BL ++ tailL (addC 0#32 BL)) := by
      unfold encRL
      rw [HBD.out, M12.out]
      rfl
    rw [he, hm13]
    exact ⟨A13, k13, rfl, hk13, ho13.rd, (R12.out.next b13).2.2, fun a e => ⟨Nat.le_trans R12.out.2.2.size (ow_addr ho13 a e).1, (ow_addr ho13 a e).2⟩⟩)
  clear hk13 ho13 b13 hm13 R11 O11 D11 D12 R12 HRw
  go_wp2_with fail
  go_ret2
  exact HF.out
theorem rencode_ok (k : Nat) (tx : BitVec 64) (sp no : Nat) (A : Option Addr) (d : List (BitVec 8)) (c : Nat) (w : World) (h : ¬ badR k sp no) (hd : d.length ≤ 4096) (hr : Rd b8 w w.heap.size A d) : Calls Try.prog 9 #[recV k tx sp no A d.length c] w (EncoP (encRL k tx sp no d) w) := by
  rcases (show (k = 1 ∧ sp = 0) ∨ (k = 1 ∧ sp = 1) ∨ (k = 2 ∧ sp = 0 ∧ no = 0) ∨ (k = 3 ∧ sp = 0 ∧ no = 0) from by unfold badR at h; omega) with hj | hj | hj | hj
  · exact rencode_ok0 k tx sp no A d c w h hj hd hr
  · exact rencode_ok1 k tx sp no A d c w h hj hd hr
  · exact rencode_ok2 k tx sp no A d c w h hj hd hr
  · exact rencode_ok3 k tx sp no A d c w h hj hd hr
end Go.Proofs.Ytoigahkgdanjnaa
