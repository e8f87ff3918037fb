/- What loamlaw4.known answers: true. No conditions. -/
import Derived.Test.YtgdgajieekkmdaaGeomE
namespace Go.Proofs.Ytgdgajieekkmdaa
set_option linter.unusedVariables false
set_option linter.unusedSimpArgs false
open Go.RowKit
theorem fld0 (x y : Int) (w : World) : (Instr.field 46 (.agg #[.int .i64 x, .int .i64 y]) 0).run Try.prog w = .ok (.int .i64 x) w := by kernel_rfl
theorem idx1 (x y z u : Int) (w : World) : (Instr.index 47 (.agg #[.int .i64 x, .int .i64 y, .int .i64 z, .int .i64 u]) (.int .i64 1)).run Try.prog w = .ok (.agg #[.int .i64 z, .int .i64 u]) w := by kernel_rfl
attribute [local go_sem] fld0 idx1
theorem okk : OkG 64 8 64 := okG_out (by decide +kernel)
theorem k4_word (w : World) : Calls Try.prog 27 #[.agg #[.int .i64 64, .int .i64 8, .int .i64 64], .int .i64 1, .int .i64 9] w (RetP (.tuple #[.int .i64 21, .int .i64 8]) w) := by
  have h := word_c 64 8 64 1 9 w okk
  rw [show wordG 64 8 64 1 9 = (21, 8) from by decide +kernel] at h
  exact h
theorem k4_check (w : World) : Calls Try.prog 25 #[.agg #[.int .i64 64, .int .i64 8, .int .i64 64]] w (RetP (.int .i64 0) w) := by
  have h := check_c 64 8 64 w
  rw [show chkG 64 8 64 = 0 from by decide +kernel] at h
  exact h
theorem k4_sectors (w : World) : Calls Try.prog 30 #[.agg #[.int .i64 64, .int .i64 8, .int .i64 64]] w (RetP (.int .i64 30) w) := by
  have h := sectors_c 64 8 64 w okk
  rw [show totG 64 8 64 = 30 from by decide +kernel] at h
  exact h
theorem k4_log (w : World) : Calls Try.prog 33 #[.agg #[.int .i64 64, .int .i64 8, .int .i64 64]] w (RetP (.agg #[.int .i64 2, .int .i64 8]) w) := by
  have h := log_c 64 8 64 w okk
  exact h
theorem k4_space (w : World) : Calls Try.prog 35 #[.agg #[.int .i64 64, .int .i64 8, .int .i64 64], .int .i64 1] w (RetP (.agg #[.int .i64 20, .int .i64 10]) w) := by
  have h := space_c 64 8 64 1 w okk
  rw [show spcG 64 8 64 1 = (20, 10) from by decide +kernel] at h
  exact h
theorem k4_slots (w : World) : Calls Try.prog 29 #[.agg #[.int .i64 64, .int .i64 8, .int .i64 64]] w (RetP (.agg #[.int .i64 0, .int .i64 1, .int .i64 1, .int .i64 1]) w) := by
  have h := slots_c 64 8 64 w okk
  exact h
theorem k4_own1 (w : World) : Calls Try.prog 37 #[.agg #[.int .i64 64, .int .i64 8, .int .i64 64], .int .i64 1] w (RetP (.string ⟨#[115, 108, 111, 116]⟩) w) := by
  have h := owner_c 64 8 64 1 w okk
  rw [show ownS 64 8 64 1 = ⟨#[115, 108, 111, 116]⟩ from by decide +kernel] at h
  exact h
theorem k4_own30 (w : World) : Calls Try.prog 37 #[.agg #[.int .i64 64, .int .i64 8, .int .i64 64], .int .i64 30] w (RetP (.string ⟨#[]⟩) w) := by
  have h := owner_c 64 8 64 30 w okk
  rw [show ownS 64 8 64 30 = ⟨#[]⟩ from by decide +kernel] at h
  exact h
theorem k4_check0 (w : World) : Calls Try.prog 25 #[.agg #[.int .i64 0, .int .i64 0, .int .i64 0]] w (RetP (.int .i64 1) w) := by
  have h := check_c 0 0 0 w
  rw [show chkG 0 0 0 = 1 from by decide +kernel] at h
  exact h
set_option maxHeartbeats 800000
set_option maxRecDepth 100000
theorem known4_c (w : World) : Calls Try.prog 23 #[] w (RetP (.bool true) w) := by
  have hk0 := Bk.new w 36 #[.int .i64 64, .int .i64 8, .int .i64 64]
  have hB0 := Gw.alloc w (.cells #[.int .i64 64, .int .i64 8, .int .i64 64] 36)
  go_enter Try.func23, Try.ntmps23
  go_wp2_with fail
  refine Calls.mono (k4_word _) ?_
  rintro e w1 ⟨rfl, hb⟩
  have hk1 := hk0.below hb hk0.lt
  obtain ⟨c1, c2, c3⟩ := hk1.three
  have hB1 := hB0.trans (hb.mono hB0.size)
  clear hb hk0 hB0
  go_wp2_with fail
  refine Calls.mono (k4_check _) ?_
  rintro e w2 ⟨rfl, hb⟩
  have hk2 := hk1.below hb hk1.lt
  obtain ⟨c1, c2, c3⟩ := hk2.three
  have hB2 := hB1.trans (hb.mono hB1.size)
  clear hb hk1 hB1
  go_wp2_with fail
  refine Calls.mono (k4_sectors _) ?_
  rintro e w3 ⟨rfl, hb⟩
  have hk3 := hk2.below hb hk2.lt
  obtain ⟨c1, c2, c3⟩ := hk3.three
  have hB3 := hB2.trans (hb.mono hB2.size)
  clear hb hk2 hB2
  go_wp2_with fail
  refine Calls.mono (k4_log _) ?_
  rintro e w4 ⟨rfl, hb⟩
  have hk4 := hk3.below hb hk3.lt
  obtain ⟨c1, c2, c3⟩ := hk4.three
  have hB4 := hB3.trans (hb.mono hB3.size)
  clear hb hk3 hB3
  go_wp2_with fail
  refine Calls.mono (k4_space _) ?_
  rintro e w5 ⟨rfl, hb⟩
  have hk5 := hk4.below hb hk4.lt
  obtain ⟨c1, c2, c3⟩ := hk5.three
  have hB5 := hB4.trans (hb.mono hB4.size)
  clear hb hk4 hB4
  go_wp2_with fail
  refine Calls.mono (k4_slots _) ?_
  rintro e w6 ⟨rfl, hb⟩
  have hk6 := hk5.below hb hk5.lt
  obtain ⟨c1, c2, c3⟩ := hk6.three
  have hB6 := hB5.trans (hb.mono hB5.size)
  clear hb hk5 hB5
  go_wp2_with fail
  refine Calls.mono (k4_own1 _) ?_
  rintro e w7 ⟨rfl, hb⟩
  have hk7 := hk6.below hb hk6.lt
  obtain ⟨c1, c2, c3⟩ := hk7.three
  have hB7 := hB6.trans (hb.mono hB6.size)
  clear hb hk6 hB6
  go_wp2_with fail
  refine Calls.mono (k4_own30 _) ?_
  rintro e w8 ⟨rfl, hb⟩
  have hk8 := hk7.below hb hk7.lt
  obtain ⟨c1, c2, c3⟩ := hk8.three
  have hB8 := hB7.trans (hb.mono hB7.size)
  clear hb hk7 hB7
  go_wp2_with fail
  refine Calls.mono (k4_check0 _) ?_
  rintro e w9 ⟨rfl, hb⟩
  have hk9 := hk8.below hb hk8.lt
  obtain ⟨c1, c2, c3⟩ := hk9.three
  have hB9 := hB8.trans (hb.mono hB8.size)
  clear hb hk8 hB8
  go_wp2_with fail
  go_ret
  exact ret_b rfl hB9
end Go.Proofs.Ytgdgajieekkmdaa
