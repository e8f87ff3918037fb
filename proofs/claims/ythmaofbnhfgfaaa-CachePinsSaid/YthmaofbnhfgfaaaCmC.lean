/- cache.Cache's at, Get, Pin, Clean, Len. Conditions: lengths. -/
import Derived.Test.YthmaofbnhfgfaaaCmB
namespace Go.Proofs.Ythmaofbnhfgfaaa
set_option linter.unusedVariables false
set_option linter.unusedSimpArgs false
open Go.RowKit Go.Maps
set_option maxRecDepth 100000
set_option maxHeartbeats 4000000
theorem at_reg (Q : Exit → Act → World → Prop) (a0 : Act) (w : World) (g q mb : Nat) (kx ky x : Int) (ok : Bool) (hg : g < w.heap.size) (hq : q < w.heap.size) (c1 : w.cell? ⟨g, 1, none⟩ = some (.map (some mb))) (k0 : w.cell? ⟨q, 0, none⟩ = some (.int .i64 kx)) (k1 : w.cell? ⟨q, 1, none⟩ = some (.int .i64 ky)) (hlk : ∀ W, Below w.heap.size w W → (Instr.lookup 45 (.map (some mb)) (.agg #[.int .i64 kx, .int .i64 ky]) true).run Try.prog W = .ok (.tuple #[.int .i64 x, .bool ok]) W) (hsz : a0.tmps.size = 24) (sl0 : a0.tmps.getD 0 undef = .pointer (some ⟨g, 0, none⟩)) (sl3 : a0.tmps.getD 3 undef = .pointer (some ⟨q, 0, none⟩))
    (fin : ∀ (vals : Nat → Value) (w1 : World), Below w.heap.size w w1 → (IsV (.int .i64 x)) (vals 9) w1 → (IsV (.bool ok)) (vals 10) w1 → Q .normal (putD vals [8, 9, 10, 11, 12, 13, 7, 14, 15, 5, 6] 0 a0) w1) :
    (Code.region 1 (regIn Try.f15 1) true).wp Try.prog Q a0 w := by
  refine region_by (G := fun w w1 => Below w.heap.size w w1) [IsV (.pointer (some ⟨g, 0, none⟩)),
    IsV (.pointer (some ⟨g, 0, none⟩)),
    IsV (.pointer (some ⟨g, 1, none⟩)),
    IsV (.map (some mb)),
    IsV (.agg #[.int .i64 kx, .int .i64 ky]),
    IsV (.tuple #[.int .i64 x, .bool ok]),
    IsV (.tuple #[.int .i64 x, .bool ok]),
    IsV (.int .i64 x),
    IsV (.bool ok),
    IsV (.int .i64 x),
    IsV (.bool ok)]
    [8, 9, 10, 11, 12, 13, 7, 14, 15, 5, 6] (by kernel_rfl) (Gw.drew _) Gw.trans (by rw [hsz]; kernel_rfl) (by kernel_rfl) ?_ ?_ ?_
  · intro f hf
    simp only [List.mem_cons, List.not_mem_nil, or_false] at hf
    rcases hf with rfl | rfl | rfl | rfl | rfl | rfl | rfl | rfl | rfl | rfl | rfl <;> intro v a b h g <;> first | exact IsV.mono h
  · refine ⟨?_, ?_, ?_, ?_, ?_, ?_, ?_, ?_, ?_, ?_, ?_, trivial⟩
    · exact owes_mv 0 (by kernel_rfl) (by kernel_rfl) (by kernel_rfl) sl0 (fun _ => rfl)
    · refine owes_v (Go.Op.nilCheck (Go.Operand.tmp 8)) 0 [0] (by kernel_rfl) (by kernel_rfl) (by kernel_rfl) rfl fun vals w1 ρ hG hF hρ hcst hfun => ?_
      have e8 : ρ (.tmp 8) = .pointer (some ⟨g, 0, none⟩) := ((hρ 8).trans (slotJ [0] (by rw [hsz]; decide) (by kernel_rfl))).trans (hF 0 (by decide))
      clear hρ hF hcst hfun sl0 sl3 fin
      exact opv_val (by go_simp <;> rfl) ⟨gw_self _, rfl⟩
    · refine owes_v (Go.Op.fieldAddr 47 (Go.Operand.tmp 9) 1) 0 [1] (by kernel_rfl) (by kernel_rfl) (by kernel_rfl) rfl fun vals w1 ρ hG hF hρ hcst hfun => ?_
      have e9 : ρ (.tmp 9) = .pointer (some ⟨g, 0, none⟩) := ((hρ 9).trans (slotJ [1] (by rw [hsz]; decide) (by kernel_rfl))).trans (hF 1 (by decide))
      clear hρ hF hcst hfun sl0 sl3 fin
      exact opv_val (by go_simp <;> rfl) ⟨gw_self _, rfl⟩
    · refine owes_v (Go.Op.load 45 (Go.Operand.tmp 10)) 45 [2] (by kernel_rfl) (by kernel_rfl) (by kernel_rfl) rfl fun vals w1 ρ hG hF hρ hcst hfun => ?_
      have e10 : ρ (.tmp 10) = .pointer (some ⟨g, 1, none⟩) := ((hρ 10).trans (slotJ [2] (by rw [hsz]; decide) (by kernel_rfl))).trans (hF 2 (by decide))
      have k := (hG.cell (p := ⟨g, 1, none⟩) hg).trans c1
      clear hρ hF hcst hfun sl0 sl3 fin
      exact opv_val (by go_simp <;> rfl) ⟨gw_self _, rfl⟩
    · refine owes_v (Go.Op.load 29 (Go.Operand.tmp 3)) 29 [] (by kernel_rfl) (by kernel_rfl) (by kernel_rfl) rfl fun vals w1 ρ hG hF hρ hcst hfun => ?_
      have e3 : ρ (.tmp 3) = .pointer (some ⟨q, 0, none⟩) := ((hρ 3).trans (slotO [] (by kernel_rfl))).trans sl3
      have k := (hG.cell (p := ⟨q, 0, none⟩) hq).trans k0
      have k2 := (hG.cell (p := ⟨q, 1, none⟩) hq).trans k1
      clear hρ hF hcst hfun sl0 sl3 fin
      exact opv_val (by go_simp <;> rfl) ⟨gw_self _, rfl⟩
    · refine owes_v (Go.Op.lookup 45 (Go.Operand.tmp 11) (Go.Operand.tmp 12) true) 57 [3, 4] (by kernel_rfl) (by kernel_rfl) (by kernel_rfl) rfl fun vals w1 ρ hG hF hρ hcst hfun => ?_
      have e11 : ρ (.tmp 11) = .map (some mb) := ((hρ 11).trans (slotJ [3, 4] (by rw [hsz]; decide) (by kernel_rfl))).trans (hF 3 (by decide))
      have e12 : ρ (.tmp 12) = .agg #[.int .i64 kx, .int .i64 ky] := ((hρ 12).trans (slotJ [3, 4] (by rw [hsz]; decide) (by kernel_rfl))).trans (hF 4 (by decide))
      have k := hlk w1 hG
      clear hρ hF hcst hfun sl0 sl3 fin
      exact opv_val (by go_simp <;> rfl) ⟨gw_self _, rfl⟩
    · exact owes_mvj 5 13 (by kernel_rfl) (by kernel_rfl) (by kernel_rfl) (by kernel_rfl) (by rw [hsz]; decide) (fun v w h => h)
    · refine owes_v (Go.Op.extract (Go.Operand.tmp 7) 0) 3 [6] (by kernel_rfl) (by kernel_rfl) (by kernel_rfl) rfl fun vals w1 ρ hG hF hρ hcst hfun => ?_
      have e7 : ρ (.tmp 7) = .tuple #[.int .i64 x, .bool ok] := ((hρ 7).trans (slotJ [6] (by rw [hsz]; decide) (by kernel_rfl))).trans (hF 6 (by decide))
      clear hρ hF hcst hfun sl0 sl3 fin
      exact opv_val (by go_simp <;> rfl) ⟨gw_self _, rfl⟩
    · refine owes_v (Go.Op.extract (Go.Operand.tmp 7) 1) 4 [6] (by kernel_rfl) (by kernel_rfl) (by kernel_rfl) rfl fun vals w1 ρ hG hF hρ hcst hfun => ?_
      have e7 : ρ (.tmp 7) = .tuple #[.int .i64 x, .bool ok] := ((hρ 7).trans (slotJ [6] (by rw [hsz]; decide) (by kernel_rfl))).trans (hF 6 (by decide))
      clear hρ hF hcst hfun sl0 sl3 fin
      exact opv_val (by go_simp <;> rfl) ⟨gw_self _, rfl⟩
    · exact owes_mvj 7 14 (by kernel_rfl) (by kernel_rfl) (by kernel_rfl) (by kernel_rfl) (by rw [hsz]; decide) (fun v w h => h)
    · exact owes_mvj 8 15 (by kernel_rfl) (by kernel_rfl) (by kernel_rfl) (by kernel_rfl) (by rw [hsz]; decide) (fun v w h => h)
  · intro vals w1 hG hF
    exact fin vals w1 hG (hF 9 (by decide +kernel)) (hF 10 (by decide +kernel))
section
variable {w W W' : World} {g fb mb N : Nat} {fs : List Fr} {hand : Nat} {tb : Tk} {ho : Option Nat}
theorem CaAt.three (h : CaAt W g fb mb N fs hand tb ho) : W.cell? ⟨g, 0, none⟩ = some (.slice (some ⟨fb, 0, none⟩) N N) ∧ W.cell? ⟨g, 1, none⟩ = some (.map (some mb)) ∧ W.cell? ⟨g, 2, none⟩ = some (.int .i64 hand) := ⟨h.blk.cell 0, h.blk.cell 1, h.blk.cell 2⟩
theorem at_none (h : CaAt w g fb mb N fs hand tb ho) (k : K2) (hk : kW k) (hv : vOf tb k = none) : Calls Try.prog 15 #[.pointer (some ⟨g, 0, none⟩), .agg #[.int .i64 k.1, .int .i64 k.2]] w fun e w' => e = .returned (.pointer none) ∧ Below w.heap.size w w' := by
  obtain ⟨kx, ky⟩ := k
  have hb := Gw.alloc w (.cells #[.int .i64 kx, .int .i64 ky] 29)
  have h1 := h.below hb
  have hkb := Bk.new w 29 #[.int .i64 kx, .int .i64 ky]
  have hlk : ∀ W, Below (w.alloc (.cells #[.int .i64 kx, .int .i64 ky] 29)).heap.size (w.alloc (.cells #[.int .i64 kx, .int .i64 ky] 29)) W → (Instr.lookup 45 (.map (some mb)) (.agg #[.int .i64 kx, .int .i64 ky]) true).run Try.prog W = .ok (.tuple #[.int .i64 0, .bool false]) W := fun W hW => by
    have := (h1.below hW).map.look hk
    rw [hv] at this
    exact this
  have HReg := Lib.hid (fun Q a0 => at_reg Q a0 _ g w.heap.size mb kx ky 0 false h1.blk.lt hkb.lt h1.three.2.1 (hkb.cell 0) (hkb.cell 1) hlk)
  clear h1 hkb hlk h
  have HB := Lib.hid hb
  clear hb
  go_enter Try.func15, Try.ntmps15
  go_wp2_with fail
  refine HReg.out _ _ rfl rfl rfl ?_
  intro vals w5 hG h5 h6
  unfold IsV at h5 h6
  simp only [putD, Act.put, List.setIfInBounds_toArray, List.set_cons_zero, List.set_cons_succ, h5, h6]
  have HB5 := Lib.hid (HB.out.trans (hG.mono HB.out.size))
  clear h5 h6 hG HReg
  go_wp2_with fail
  go_ret
  exact ⟨rfl, HB5.out⟩
theorem at_some (h : CaAt w g fb mb N fs hand tb ho) (k : K2) (hk : kW k) (i : Nat) (hi : i < N) (hv : vOf tb k = some (i : Int)) : Calls Try.prog 15 #[.pointer (some ⟨g, 0, none⟩), .agg #[.int .i64 k.1, .int .i64 k.2]] w fun e w' => e = .returned (.pointer (some ⟨fb, i * 7, none⟩)) ∧ Below w.heap.size w w' := by
  obtain ⟨kx, ky⟩ := k
  have hb := Gw.alloc w (.cells #[.int .i64 kx, .int .i64 ky] 29)
  have h1 := h.below hb
  have hkb := Bk.new w 29 #[.int .i64 kx, .int .i64 ky]
  have hlk : ∀ W, Below (w.alloc (.cells #[.int .i64 kx, .int .i64 ky] 29)).heap.size (w.alloc (.cells #[.int .i64 kx, .int .i64 ky] 29)) W → (Instr.lookup 45 (.map (some mb)) (.agg #[.int .i64 kx, .int .i64 ky]) true).run Try.prog W = .ok (.tuple #[.int .i64 i, .bool true]) W := fun W hW => by
    have := (h1.below hW).map.look hk
    rw [hv] at this
    exact this
  have HReg := Lib.hid (fun Q a0 => at_reg Q a0 _ g w.heap.size mb kx ky i true h1.blk.lt hkb.lt h1.three.2.1 (hkb.cell 0) (hkb.cell 1) hlk)
  have H1 := Lib.hid h1
  have p0 : (0 : Int) ≤ (i : Int) := by omega
  have p1 : (i : Int) < (N : Int) := by omega
  clear h1 hkb hlk h
  have HB := Lib.hid hb
  clear hb
  go_enter Try.func15, Try.ntmps15
  go_wp2_with fail
  refine HReg.out _ _ rfl rfl rfl ?_
  intro vals w5 hG h5 h6
  unfold IsV at h5 h6
  simp only [putD, Act.put, List.setIfInBounds_toArray, List.set_cons_zero, List.set_cons_succ, h5, h6]
  have c0 := (H1.out.below hG).three.1
  have HB5 := Lib.hid (HB.out.trans (hG.mono HB.out.size))
  clear h5 h6 hG HReg
  go_wp2_with fail
  go_ret
  exact ⟨by simp, HB5.out⟩
end
end Go.Proofs.Ythmaofbnhfgfaaa
