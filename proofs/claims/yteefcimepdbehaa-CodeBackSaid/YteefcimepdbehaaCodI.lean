/- CodeBack: what is read again. Conditions: lengths. -/
import Derived.Test.YteefcimepdbehaaCodH
import Derived.Test.YteefcimepdbehaaStr
namespace Go.Proofs.Yteefcimepdbehaa
set_option linter.unusedVariables false
set_option linter.unusedSimpArgs false
open Go.RowKit
set_option maxHeartbeats 400000
set_option maxRecDepth 100000
theorem dec_u (W : World) (d : Nat) (x : BitVec 64) (rest : List (BitVec 8)) (h : DecAt W d (uintL x ++ rest) 0) (hl : rest.length ≤ 100000000) : Calls Try.prog 27 #[.pointer (some ⟨d, 0, none⟩)] W fun e w' => e = .returned (.int .u64 (U64 x)) ∧ DecAt w' d rest 0 ∧ Only W w' d := by
  have hu : (uintL x).length ≤ 10 := uintF_len 9 _
  have k := dec_uint W d _ h (by rw [List.length_append]; omega)
  rw [dec_uint_back x rest] at k
  exact k
theorem dec_i (W : World) (d : Nat) (x : BitVec 64) (rest : List (BitVec 8)) (h : DecAt W d (uintL (zigL x) ++ rest) 0) (hl : rest.length ≤ 100000000) : Calls Try.prog 28 #[.pointer (some ⟨d, 0, none⟩)] W fun e w' => e = .returned (.int .i64 (I64 x)) ∧ DecAt w' d rest 0 ∧ Only W w' d := by
  have hu : (uintL (zigL x)).length ≤ 10 := uintF_len 9 _
  have k := dec_int W d _ h (by rw [List.length_append]; omega)
  rw [dec_uint_back (zigL x) rest] at k
  unfold DecIP at k
  dsimp only at k
  rw [zag_zig] at k
  exact k
theorem dec_r (W : World) (d : Nat) (xs rest : List (BitVec 8)) (h : DecAt W d ((uintL (BitVec.ofNat 64 xs.length) ++ xs) ++ rest) 0) (hl : (xs ++ rest).length ≤ 100000000) : Calls Try.prog 29 #[.pointer (some ⟨d, 0, none⟩)] W (RawP d xs rest W) := by
  rw [List.append_assoc] at h
  exact dec_raw W d xs rest h (by omega)
theorem dec_w (W : World) (d : Nat) (ws : List (BitVec 64)) (rest : List (BitVec 8)) (h : DecAt W d (wordsL ws ++ rest) 0) (hl : (flatW ws ++ rest).length ≤ 100000000) : Calls Try.prog 31 #[.pointer (some ⟨d, 0, none⟩)] W (WrdP d ws rest W) := by
  unfold wordsL at h
  rw [List.append_assoc] at h
  exact dec_words W d ws rest h (by omega)
theorem beqS5 (s : ByteArray) : (s.toList != s.toList) = false := by simp
attribute [local go_sem] beqS5
theorem bytes_r (Q : Exit → Act → World → Prop) (a0 : Act) (w : World) (g c : Nat) (A : Option Addr) (es : List (BitVec 8)) (he : EncR g es w) (hr : Rd b8 w w.heap.size A es) (hl : es.length ≤ 1073741824) (hsz : a0.tmps.size = 167) (sl3 : a0.tmps.getD 3 undef = .pointer (some ⟨g, 0, none⟩)) (sl4 : a0.tmps.getD 4 undef = .slice A es.length c)
    (fin : ∀ (vals : Nat → Value) (w1 : World), Below w.heap.size w w1 → (IsV (.bool false)) (vals 5) w1 → Q .normal (putD vals [96, 97, 98, 99, 100, 101] 0 a0) w1) :
    (Code.region 23 (regIn Try.f3 23) true).wp Try.prog Q a0 w := by
  refine region_by (G := fun w w1 => Below w.heap.size w w1) [IsV (.pointer (some ⟨g, 0, none⟩)),
    SlV b8 es,
    IsV (.string (strB es)),
    IsV (.slice A es.length c),
    IsV (.string (strB es)),
    IsV (.bool false)]
    [96, 97, 98, 99, 100, 101] (by kernel_rfl) (Gw.drew _) Gw.trans (by rw [hsz]; kernel_rfl) (by kernel_rfl) ?_ ?_ ?_
  · intro f hf
    simp only [List.mem_cons, List.not_mem_nil, or_false] at hf
    rcases hf with rfl | rfl | rfl | rfl | rfl | rfl <;> intro v a b h g <;> first | exact IsV.mono h | exact SlV.mono h g
  · refine ⟨?_, ?_, ?_, ?_, ?_, ?_, trivial⟩
    · exact owes_mv 3 (by kernel_rfl) (by kernel_rfl) (by kernel_rfl) sl3 (fun _ => rfl)
    · refine owes_v (Go.Op.call { callee := Go.Callee.value (Go.Operand.func 25), args := #[Go.Operand.tmp 96], argTypes := #[25] }) 26 [0] (by kernel_rfl) (by kernel_rfl) (by kernel_rfl) rfl fun vals w1 ρ hG hF hρ hcst hfun => ?_
      have e96 : ρ (.tmp 96) = .pointer (some ⟨g, 0, none⟩) := ((hρ 96).trans (slotJ [0] (by rw [hsz]; decide) (by kernel_rfl))).trans (hF 0 (by decide))
      clear hρ hF hcst sl3 sl4 fin
      exact opv_enter (by go_simp <;> rfl) (of_cl (enc_bytes w1 g es (he.below hG) hl))
    · refine owes_v (Go.Op.convert 26 9 (Go.Operand.tmp 97)) 9 [1] (by kernel_rfl) (by kernel_rfl) (by kernel_rfl) rfl fun vals w1 ρ hG hF hρ hcst hfun => ?_
      have f97 : (SlV b8 es) (vals 1) w1 := hF 1 (by decide)
      have e97 : ρ (.tmp 97) = vals 1 := (hρ 97).trans (slotJ [1] (by rw [hsz]; decide) (by kernel_rfl))
      have k := conv_sl f97
      clear hρ hF hcst hfun sl3 sl4 fin
      exact opv_val (by go_simp <;> rfl) ⟨gw_self _, rfl⟩
    · exact owes_mv 4 (by kernel_rfl) (by kernel_rfl) (by kernel_rfl) sl4 (fun _ => rfl)
    · refine owes_v (Go.Op.convert 26 9 (Go.Operand.tmp 99)) 9 [3] (by kernel_rfl) (by kernel_rfl) (by kernel_rfl) rfl fun vals w1 ρ hG hF hρ hcst hfun => ?_
      have e99 : ρ (.tmp 99) = .slice A es.length c := ((hρ 99).trans (slotJ [3] (by rw [hsz]; decide) (by kernel_rfl))).trans (hF 3 (by decide))
      have k := str_conv es A c _ w1 (hr.below hG)
      clear hρ hF hcst hfun sl3 sl4 fin
      exact opv_val (by go_simp <;> rfl) ⟨gw_self _, rfl⟩
    · refine owes_v (Go.Op.binOp Go.BinOp.neq 9 (Go.Operand.tmp 98) (Go.Operand.tmp 100) 9) 4 [2, 4] (by kernel_rfl) (by kernel_rfl) (by kernel_rfl) rfl fun vals w1 ρ hG hF hρ hcst hfun => ?_
      have e98 : ρ (.tmp 98) = .string (strB es) := ((hρ 98).trans (slotJ [2, 4] (by rw [hsz]; decide) (by kernel_rfl))).trans (hF 2 (by decide))
      have e100 : ρ (.tmp 100) = .string (strB es) := ((hρ 100).trans (slotJ [2, 4] (by rw [hsz]; decide) (by kernel_rfl))).trans (hF 4 (by decide))
      clear hρ hF hcst hfun sl3 sl4 fin
      exact opv_val (by go_simp <;> rfl) ⟨gw_self _, rfl⟩
  · intro vals w1 hG hF
    exact fin vals w1 hG (hF 5 (by decide +kernel))
end Go.Proofs.Yteefcimepdbehaa
