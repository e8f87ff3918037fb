/- The law RecordRows of layer 8 returns true for every argument. No conditions. -/
import Derived.Test.YtoigahkgdanjnaaRecG
import Derived.Test.YtoigahkgdanjnaaRecK
import Derived.Test.YtoigahkgdanjnaaRecM
import Derived.Test.YtoigahkgdanjnaaOpenX
namespace Go.Proofs.Ytoigahkgdanjnaa
set_option linter.unusedVariables false
set_option linter.unusedSimpArgs false
open Go.RowKit
set_option maxHeartbeats 800000
set_option maxRecDepth 100000
theorem of_r8' {P : Program} {f : FuncId} {args : Array Value} {v : Value} {w : World} (h : Calls P f args w (RetP v w)) : Calls P f args w fun e w2 => ∃ u, e = .returned u ∧ Below w.heap.size w w2 ∧ IsV v u w2 :=
  h.mono fun _ _ h => ⟨_, h.1, h.2, rfl⟩
theorem same_m (k : Int) (tx : BitVec 64) (sp no : Int) (A A2 : Option Addr) (d : List (BitVec 8)) (n c c2 : Nat) (w : World) (hn : n = d.length) (h1 : Rd b8 w w.heap.size A d) (h2 : Rd b8 w w.heap.size A2 d) : Calls Try.prog 12 #[recV k tx sp no A n c, recV k tx sp no A2 n c2] w (RetP (.bool true) w) := by
  subst hn
  exact same_c k tx sp no A A2 d c c2 w h1 h2
theorem rsame_m (k : Int) (tx : BitVec 64) (sp no : Int) (A A2 : Option Addr) (d : List (BitVec 8)) (n c c2 : Nat) (w : World) (hn : n = d.length) (h1 : Rd b8 w w.heap.size A d) (h2 : Rd b8 w w.heap.size A2 d) : Calls Try.prog 13 #[recV k tx sp no A n c, recV k tx sp no A2 n c2] w (RetP (.bool true) w) := by
  subst hn
  exact rsame_c k tx sp no A A2 d c c2 w h1 h2
/-- Five cells from p on are a record. -/
def Rec5 (W : World) (p : Addr) (k : Int) (tx : BitVec 64) (sp no : Int) (D : Option Addr) (n c : Nat) : Prop := W.cell? p = some (.int .i64 k) ∧ W.cell? ⟨p.block, p.off + 1, none⟩ = some (.int .u64 (U64 tx)) ∧ W.cell? ⟨p.block, p.off + 2, none⟩ = some (.int .i64 sp) ∧ W.cell? ⟨p.block, p.off + 3, none⟩ = some (.int .i64 no) ∧ W.cell? ⟨p.block, p.off + 4, none⟩ = some (.slice D n c)
theorem Rec5.below {W W' : World} {B : Nat} {p : Addr} {k : Int} {tx : BitVec 64} {sp no : Int} {D : Option Addr} {n c : Nat} (h : Rec5 W p k tx sp no D n c) (hb : Below B W W') (hp : p.block < B) : Rec5 W' p k tx sp no D n c := by
  obtain ⟨h1, h2, h3, h4, h5⟩ := h
  exact ⟨(hb.cell hp).trans h1, (hb.cell (p := ⟨p.block, p.off + 1, none⟩) hp).trans h2, (hb.cell (p := ⟨p.block, p.off + 2, none⟩) hp).trans h3, (hb.cell (p := ⟨p.block, p.off + 3, none⟩) hp).trans h4, (hb.cell (p := ⟨p.block, p.off + 4, none⟩) hp).trans h5⟩
theorem rr_reg (Q : Exit → Act → World → Prop) (a0 : Act) (w : World) (am al : Addr) (N c7 c0 i n c c2 : Nat) (k sp no : Int) (tx : BitVec 64) (D A : Option Addr) (d : List (BitVec 8)) (hn : Hid (n = d.length)) (hi : (i : Int) < (N : Int)) (hi0 : (0 : Int) ≤ (i : Int)) (bm : (am.add (i * 5)).block < w.heap.size) (bl : (al.add (i * 5)).block < w.heap.size) (hm : Rec5 w (am.add (i * 5)) k tx sp no D n c) (hl : Rec5 w (al.add (i * 5)) k tx sp no A n c2) (rm : Rd b8 w w.heap.size D d) (rl : Rd b8 w w.heap.size A d) (hsz : a0.tmps.size = 85) (sl0 : a0.tmps.getD 0 undef = .slice (some al) N c0) (sl7 : a0.tmps.getD 7 undef = .slice (some am) N c7) (sl9 : a0.tmps.getD 9 undef = .int .i64 (i : Int))
    (fin : ∀ (vals : Nat → Value) (w1 : World), Below w.heap.size w w1 → (IsV (.bool false)) (vals 23) w1 → Q .normal (putD vals [61, 62, 63, 64, 65, 66, 67, 68, 69, 70, 71, 72, 73, 74, 75, 76, 77, 78, 79, 80, 81, 82, 83, 84] 0 a0) w1) :
    (Code.region 21 (regIn Try.f4 21) true).wp Try.prog Q a0 w := by
  refine region_by (G := fun w w1 => Below w.heap.size w w1) [IsV (.slice (some am) N c7),
    IsV (.int .i64 (i : Int)),
    IsV (.pointer (some (am.add (i * 5)))),
    IsV (recV k tx sp no D n c),
    IsV (.slice (some al) N c0),
    IsV (.int .i64 (i : Int)),
    IsV (.pointer (some (al.add (i * 5)))),
    IsV (recV k tx sp no A n c2),
    IsV (.bool true),
    IsV (.bool false),
    IsV (.bool false),
    IsV (.slice (some am) N c7),
    IsV (.int .i64 (i : Int)),
    IsV (.pointer (some (am.add (i * 5)))),
    IsV (recV k tx sp no D n c),
    IsV (recV k tx sp no D n c),
    IsV (.slice (some al) N c0),
    IsV (.int .i64 (i : Int)),
    IsV (.pointer (some (al.add (i * 5)))),
    IsV (recV k tx sp no A n c2),
    IsV (recV k tx sp no A n c2),
    IsV (.bool true),
    IsV (.bool false),
    IsV (.bool false)]
    [61, 62, 63, 64, 65, 66, 67, 68, 69, 70, 71, 72, 73, 74, 75, 76, 77, 78, 79, 80, 81, 82, 83, 84] (by kernel_rfl) (Gw.drew _) Gw.trans (by rw [hsz]; kernel_rfl) (by kernel_rfl) ?_ ?_ ?_
  · intro f hf
    simp only [List.mem_cons, List.not_mem_nil, or_false] at hf
    rcases hf with rfl | rfl | rfl | rfl | rfl | rfl | rfl | rfl | rfl | rfl | rfl | rfl | rfl | rfl | rfl | rfl | rfl | rfl | rfl | rfl | rfl | rfl | rfl | rfl <;> intro v a b h g <;> first | exact IsV.mono h
  · refine ⟨?_, ?_, ?_, ?_, ?_, ?_, ?_, ?_, ?_, ?_, ?_, ?_, ?_, ?_, ?_, ?_, ?_, ?_, ?_, ?_, ?_, ?_, ?_, ?_, trivial⟩
    · exact owes_mv 7 (by kernel_rfl) (by kernel_rfl) (by kernel_rfl) sl7 (fun _ => rfl)
    · exact owes_mv 9 (by kernel_rfl) (by kernel_rfl) (by kernel_rfl) sl9 (fun _ => rfl)
    · refine owes_v (Go.Op.indexAddr 43 (Go.Operand.tmp 61) (Go.Operand.tmp 62)) 0 [0, 1] (by kernel_rfl) (by kernel_rfl) (by kernel_rfl) rfl fun vals w1 ρ hG hF hρ hcst hfun => ?_
      have e61 : ρ (.tmp 61) = .slice (some am) N c7 := ((hρ 61).trans (slotJ [0, 1] (by rw [hsz]; decide) (by kernel_rfl))).trans (hF 0 (by decide))
      have e62 : ρ (.tmp 62) = .int .i64 (i : Int) := ((hρ 62).trans (slotJ [0, 1] (by rw [hsz]; decide) (by kernel_rfl))).trans (hF 1 (by decide))
      clear hρ hF hcst hfun sl0 sl7 sl9 fin
      exact opv_val (by go_simp <;> rfl) ⟨gw_self _, rfl⟩
    · refine owes_v (Go.Op.load 27 (Go.Operand.tmp 63)) 27 [2] (by kernel_rfl) (by kernel_rfl) (by kernel_rfl) rfl fun vals w1 ρ hG hF hρ hcst hfun => ?_
      have e63 : ρ (.tmp 63) = .pointer (some (am.add (i * 5))) := ((hρ 63).trans (slotJ [2] (by rw [hsz]; decide) (by kernel_rfl))).trans (hF 2 (by decide))
      obtain ⟨k0, k1, k2, k3, k4⟩ := hm.below hG bm
      clear hρ hF hcst hfun sl0 sl7 sl9 fin
      exact opv_val (by go_simp <;> rfl) ⟨gw_self _, rfl⟩
    · exact owes_mv 0 (by kernel_rfl) (by kernel_rfl) (by kernel_rfl) sl0 (fun _ => rfl)
    · exact owes_mv 9 (by kernel_rfl) (by kernel_rfl) (by kernel_rfl) sl9 (fun _ => rfl)
    · refine owes_v (Go.Op.indexAddr 43 (Go.Operand.tmp 65) (Go.Operand.tmp 66)) 0 [4, 5] (by kernel_rfl) (by kernel_rfl) (by kernel_rfl) rfl fun vals w1 ρ hG hF hρ hcst hfun => ?_
      have e65 : ρ (.tmp 65) = .slice (some al) N c0 := ((hρ 65).trans (slotJ [4, 5] (by rw [hsz]; decide) (by kernel_rfl))).trans (hF 4 (by decide))
      have e66 : ρ (.tmp 66) = .int .i64 (i : Int) := ((hρ 66).trans (slotJ [4, 5] (by rw [hsz]; decide) (by kernel_rfl))).trans (hF 5 (by decide))
      clear hρ hF hcst hfun sl0 sl7 sl9 fin
      exact opv_val (by go_simp <;> rfl) ⟨gw_self _, rfl⟩
    · refine owes_v (Go.Op.load 27 (Go.Operand.tmp 67)) 27 [6] (by kernel_rfl) (by kernel_rfl) (by kernel_rfl) rfl fun vals w1 ρ hG hF hρ hcst hfun => ?_
      have e67 : ρ (.tmp 67) = .pointer (some (al.add (i * 5))) := ((hρ 67).trans (slotJ [6] (by rw [hsz]; decide) (by kernel_rfl))).trans (hF 6 (by decide))
      obtain ⟨k0, k1, k2, k3, k4⟩ := hl.below hG bl
      clear hρ hF hcst hfun sl0 sl7 sl9 fin
      exact opv_val (by go_simp <;> rfl) ⟨gw_self _, rfl⟩
    · refine owes_v (Go.Op.call { callee := Go.Callee.value (Go.Operand.func 12), args := #[Go.Operand.tmp 64, Go.Operand.tmp 68], argTypes := #[27, 27] }) 4 [3, 7] (by kernel_rfl) (by kernel_rfl) (by kernel_rfl) rfl fun vals w1 ρ hG hF hρ hcst hfun => ?_
      have e64 : ρ (.tmp 64) = recV k tx sp no D n c := ((hρ 64).trans (slotJ [3, 7] (by rw [hsz]; decide) (by kernel_rfl))).trans (hF 3 (by decide))
      have e68 : ρ (.tmp 68) = recV k tx sp no A n c2 := ((hρ 68).trans (slotJ [3, 7] (by rw [hsz]; decide) (by kernel_rfl))).trans (hF 7 (by decide))
      clear hρ hF hcst sl0 sl7 sl9 fin
      exact opv_enter (by go_simp <;> rfl) (of_r8' (same_m k tx sp no D A d n c c2 w1 hn.out ((rm.below hG).more hG.size) ((rl.below hG).more hG.size)))
    · refine owes_v (Go.Op.unOp Go.UnOp.not 4 (Go.Operand.tmp 69)) 4 [8] (by kernel_rfl) (by kernel_rfl) (by kernel_rfl) rfl fun vals w1 ρ hG hF hρ hcst hfun => ?_
      have e69 : ρ (.tmp 69) = .bool true := ((hρ 69).trans (slotJ [8] (by rw [hsz]; decide) (by kernel_rfl))).trans (hF 8 (by decide))
      clear hρ hF hcst hfun sl0 sl7 sl9 fin
      exact opv_val (by go_simp <;> rfl) ⟨gw_self _, rfl⟩
    · exact owes_mvj 9 70 (by kernel_rfl) (by kernel_rfl) (by kernel_rfl) (by kernel_rfl) (by rw [hsz]; decide) (fun v w h => h)
    · refine owes_vt 10 false (Go.Op.move (Go.Operand.tmp 7)) 43 [] (by kernel_rfl) (by kernel_rfl) (by kernel_rfl) (fun _ _ h => h) (by rw [hsz]; kernel_rfl) (by kernel_rfl) rfl fun vals w1 ρ hG hF hρ hcst hfun => ?_
      have e7 : ρ (.tmp 7) = .slice (some am) N c7 := ((hρ 7).trans (slotO [] (by kernel_rfl))).trans sl7
      clear hρ hF hcst hfun sl0 sl7 sl9 fin
      exact opv_val (by go_simp <;> rfl) ⟨gw_self _, rfl⟩
    · refine owes_vt 10 false (Go.Op.move (Go.Operand.tmp 9)) 3 [] (by kernel_rfl) (by kernel_rfl) (by kernel_rfl) (fun _ _ h => h) (by rw [hsz]; kernel_rfl) (by kernel_rfl) rfl fun vals w1 ρ hG hF hρ hcst hfun => ?_
      have e9 : ρ (.tmp 9) = .int .i64 (i : Int) := ((hρ 9).trans (slotO [] (by kernel_rfl))).trans sl9
      clear hρ hF hcst hfun sl0 sl7 sl9 fin
      exact opv_val (by go_simp <;> rfl) ⟨gw_self _, rfl⟩
    · refine owes_vt 10 false (Go.Op.indexAddr 43 (Go.Operand.tmp 72) (Go.Operand.tmp 73)) 0 [11, 12] (by kernel_rfl) (by kernel_rfl) (by kernel_rfl) (fun _ _ h => h) (by rw [hsz]; kernel_rfl) (by kernel_rfl) rfl fun vals w1 ρ hG hF hρ hcst hfun => ?_
      have e72 : ρ (.tmp 72) = .slice (some am) N c7 := ((hρ 72).trans (slotJ [11, 12] (by rw [hsz]; decide) (by kernel_rfl))).trans (hF 11 (by decide))
      have e73 : ρ (.tmp 73) = .int .i64 (i : Int) := ((hρ 73).trans (slotJ [11, 12] (by rw [hsz]; decide) (by kernel_rfl))).trans (hF 12 (by decide))
      clear hρ hF hcst hfun sl0 sl7 sl9 fin
      exact opv_val (by go_simp <;> rfl) ⟨gw_self _, rfl⟩
    · refine owes_vt 10 false (Go.Op.load 27 (Go.Operand.tmp 74)) 27 [13] (by kernel_rfl) (by kernel_rfl) (by kernel_rfl) (fun _ _ h => h) (by rw [hsz]; kernel_rfl) (by kernel_rfl) rfl fun vals w1 ρ hG hF hρ hcst hfun => ?_
      have e74 : ρ (.tmp 74) = .pointer (some (am.add (i * 5))) := ((hρ 74).trans (slotJ [13] (by rw [hsz]; decide) (by kernel_rfl))).trans (hF 13 (by decide))
      obtain ⟨k0, k1, k2, k3, k4⟩ := hm.below hG bm
      clear hρ hF hcst hfun sl0 sl7 sl9 fin
      exact opv_val (by go_simp <;> rfl) ⟨gw_self _, rfl⟩
    · refine owes_vt 10 false (Go.Op.call { callee := Go.Callee.value (Go.Operand.func 10), args := #[Go.Operand.tmp 75], argTypes := #[27] }) 36 [14] (by kernel_rfl) (by kernel_rfl) (by kernel_rfl) (fun _ _ h => h) (by rw [hsz]; kernel_rfl) (by kernel_rfl) rfl fun vals w1 ρ hG hF hρ hcst hfun => ?_
      have e75 : ρ (.tmp 75) = recV k tx sp no D n c := ((hρ 75).trans (slotJ [14] (by rw [hsz]; decide) (by kernel_rfl))).trans (hF 14 (by decide))
      clear hρ hF hcst sl0 sl7 sl9 fin
      exact opv_enter (by go_simp <;> rfl) (of_r8' (of8_c k tx sp no D n c w1))
    · refine owes_vt 10 false (Go.Op.move (Go.Operand.tmp 0)) 43 [] (by kernel_rfl) (by kernel_rfl) (by kernel_rfl) (fun _ _ h => h) (by rw [hsz]; kernel_rfl) (by kernel_rfl) rfl fun vals w1 ρ hG hF hρ hcst hfun => ?_
      have e0 : ρ (.tmp 0) = .slice (some al) N c0 := ((hρ 0).trans (slotO [] (by kernel_rfl))).trans sl0
      clear hρ hF hcst hfun sl0 sl7 sl9 fin
      exact opv_val (by go_simp <;> rfl) ⟨gw_self _, rfl⟩
    · refine owes_vt 10 false (Go.Op.move (Go.Operand.tmp 9)) 3 [] (by kernel_rfl) (by kernel_rfl) (by kernel_rfl) (fun _ _ h => h) (by rw [hsz]; kernel_rfl) (by kernel_rfl) rfl fun vals w1 ρ hG hF hρ hcst hfun => ?_
      have e9 : ρ (.tmp 9) = .int .i64 (i : Int) := ((hρ 9).trans (slotO [] (by kernel_rfl))).trans sl9
      clear hρ hF hcst hfun sl0 sl7 sl9 fin
      exact opv_val (by go_simp <;> rfl) ⟨gw_self _, rfl⟩
    · refine owes_vt 10 false (Go.Op.indexAddr 43 (Go.Operand.tmp 77) (Go.Operand.tmp 78)) 0 [16, 17] (by kernel_rfl) (by kernel_rfl) (by kernel_rfl) (fun _ _ h => h) (by rw [hsz]; kernel_rfl) (by kernel_rfl) rfl fun vals w1 ρ hG hF hρ hcst hfun => ?_
      have e77 : ρ (.tmp 77) = .slice (some al) N c0 := ((hρ 77).trans (slotJ [16, 17] (by rw [hsz]; decide) (by kernel_rfl))).trans (hF 16 (by decide))
      have e78 : ρ (.tmp 78) = .int .i64 (i : Int) := ((hρ 78).trans (slotJ [16, 17] (by rw [hsz]; decide) (by kernel_rfl))).trans (hF 17 (by decide))
      clear hρ hF hcst hfun sl0 sl7 sl9 fin
      exact opv_val (by go_simp <;> rfl) ⟨gw_self _, rfl⟩
    · refine owes_vt 10 false (Go.Op.load 27 (Go.Operand.tmp 79)) 27 [18] (by kernel_rfl) (by kernel_rfl) (by kernel_rfl) (fun _ _ h => h) (by rw [hsz]; kernel_rfl) (by kernel_rfl) rfl fun vals w1 ρ hG hF hρ hcst hfun => ?_
      have e79 : ρ (.tmp 79) = .pointer (some (al.add (i * 5))) := ((hρ 79).trans (slotJ [18] (by rw [hsz]; decide) (by kernel_rfl))).trans (hF 18 (by decide))
      obtain ⟨k0, k1, k2, k3, k4⟩ := hl.below hG bl
      clear hρ hF hcst hfun sl0 sl7 sl9 fin
      exact opv_val (by go_simp <;> rfl) ⟨gw_self _, rfl⟩
    · refine owes_vt 10 false (Go.Op.call { callee := Go.Callee.value (Go.Operand.func 10), args := #[Go.Operand.tmp 80], argTypes := #[27] }) 36 [19] (by kernel_rfl) (by kernel_rfl) (by kernel_rfl) (fun _ _ h => h) (by rw [hsz]; kernel_rfl) (by kernel_rfl) rfl fun vals w1 ρ hG hF hρ hcst hfun => ?_
      have e80 : ρ (.tmp 80) = recV k tx sp no A n c2 := ((hρ 80).trans (slotJ [19] (by rw [hsz]; decide) (by kernel_rfl))).trans (hF 19 (by decide))
      clear hρ hF hcst sl0 sl7 sl9 fin
      exact opv_enter (by go_simp <;> rfl) (of_r8' (of8_c k tx sp no A n c2 w1))
    · refine owes_vt 10 false (Go.Op.call { callee := Go.Callee.value (Go.Operand.func 13), args := #[Go.Operand.tmp 76, Go.Operand.tmp 81], argTypes := #[36, 36] }) 4 [15, 20] (by kernel_rfl) (by kernel_rfl) (by kernel_rfl) (fun _ _ h => h) (by rw [hsz]; kernel_rfl) (by kernel_rfl) rfl fun vals w1 ρ hG hF hρ hcst hfun => ?_
      have e76 : ρ (.tmp 76) = recV k tx sp no D n c := ((hρ 76).trans (slotJ [15, 20] (by rw [hsz]; decide) (by kernel_rfl))).trans (hF 15 (by decide))
      have e81 : ρ (.tmp 81) = recV k tx sp no A n c2 := ((hρ 81).trans (slotJ [15, 20] (by rw [hsz]; decide) (by kernel_rfl))).trans (hF 20 (by decide))
      clear hρ hF hcst sl0 sl7 sl9 fin
      exact opv_enter (by go_simp <;> rfl) (of_r8' (rsame_m k tx sp no D A d n c c2 w1 hn.out ((rm.below hG).more hG.size) ((rl.below hG).more hG.size)))
    · refine owes_vt 10 false (Go.Op.unOp Go.UnOp.not 4 (Go.Operand.tmp 82)) 4 [21] (by kernel_rfl) (by kernel_rfl) (by kernel_rfl) (fun _ _ h => h) (by rw [hsz]; kernel_rfl) (by kernel_rfl) rfl fun vals w1 ρ hG hF hρ hcst hfun => ?_
      have e82 : ρ (.tmp 82) = .bool true := ((hρ 82).trans (slotJ [21] (by rw [hsz]; decide) (by kernel_rfl))).trans (hF 21 (by decide))
      clear hρ hF hcst hfun sl0 sl7 sl9 fin
      exact opv_val (by go_simp <;> rfl) ⟨gw_self _, rfl⟩
    · refine owes_v (Go.Op.pick (Go.Operand.tmp 71) (Go.Operand.const (Go.Value.bool true)) (Go.Operand.tmp 83)) 4 [10, 22] (by kernel_rfl) (by kernel_rfl) (by kernel_rfl) rfl fun vals w1 ρ hG hF hρ hcst hfun => ?_
      have e71 : ρ (.tmp 71) = .bool false := ((hρ 71).trans (slotJ [10, 22] (by rw [hsz]; decide) (by kernel_rfl))).trans (hF 10 (by decide))
      have e83 : ρ (.tmp 83) = .bool false := ((hρ 83).trans (slotJ [10, 22] (by rw [hsz]; decide) (by kernel_rfl))).trans (hF 22 (by decide))
      clear hρ hF hfun sl0 sl7 sl9 fin
      exact opv_val (by go_simp <;> rfl) ⟨gw_self _, rfl⟩
  · intro vals w1 hG hF
    exact fin vals w1 hG (hF 23 (by decide +kernel))
theorem rows_many (w : World) (A : Option Addr) (n c : Nat) (h : 20 < n) : Calls Try.prog 4 #[.slice A n c] w (TruP (.bool true) w) := by
  have h' : 20 < (n : Int) := by omega
  clear h
  go_enter Try.func4, Try.ntmps4
  go_wp2_with fail
  refine Calls.mono (known8_c _) ?_
  rintro e w1 ⟨rfl, b1⟩
  go_wp2_with fail
  go_ret
  exact ⟨rfl, b1⟩
/-- A record as it is handed, and as it is meant. -/
structure Mt (x : Rc) (y : Rn) : Prop where
  k : x.k = y.k
  tx : x.tx = y.tx
  sp : x.sp = y.sp
  no : x.no = y.no
  d : x.d = y.d
def RowsR (w : World) (l : List Rc) (b i : Value) (wr : World) : Prop := ∃ (j : Nat) (u : Value) (L : List Rn), i = .int .i64 j ∧ u = b ∧ j ≤ l.length ∧ Hid (L.length = j) ∧ Hid (∀ m (h : m < l.length) (h2 : m < L.length), Mt l[m] L[m]) ∧ Hid (∀ y ∈ L, y.ok ∧ y.d.length ≤ 300) ∧ Hid (Ow b8 5 wr w.heap.size u (encs L)) ∧ Hid ((encs L).length ≤ j * 400) ∧ Hid (Below w.heap.size w wr)
theorem rows_in (w : World) (A : Option Addr) (l : List Rc) (c : Nat) (hl : Rcs w w.heap.size A l) (h : ¬ 20 < l.length) : Calls Try.prog 4 #[.slice A l.length c] w (TruP (.bool true) w) := by
  obtain ⟨N, hN⟩ : ∃ N, N = l.length := ⟨_, rfl⟩
  have HN := Lib.hid hN
  have HL := Lib.hid hl
  have h' : ¬ 20 < (N : Int) := by omega
  have hn20 : N ≤ 20 := by omega
  rw [← hN]
  clear hN hl h
  go_enter Try.func4, Try.ntmps4
  go_wp2_with fail
  refine Calls.mono (known8_c _) ?_
  rintro e w1 ⟨rfl, b1⟩
  have HB1 := Lib.hid b1
  clear b1
  go_wp2_with fail
  go_loopw [3, 4] (fun b i wr => RowsR w l b i wr) (fun _ i _ => N - (intOf i).toNat)
  case atStart => exact ⟨0, _, [], rfl, rfl, Nat.zero_le _, Lib.hid rfl, Lib.hid (fun m h h2 => absurd h2 (by simp)), Lib.hid (fun y hy => by cases hy), Lib.hid (Ow.nil_ _ _ _ _), Lib.hid (Nat.zero_le _), HB1⟩
  case round =>
    obtain ⟨j, vb, L, rfl, rfl, hj, hLl, hM, hOk, hO, hEn, hB⟩ := hrel
    rw [← HN.out] at hj
    obtain ⟨Ab, cb, rfl, hcb⟩ := hO.out.form
    have HCB := Lib.hid hcb
    have HRb := Lib.hid (hO.out.rd)
    obtain ⟨nb, hnb⟩ : ∃ n, n = (encs L).length := ⟨_, rfl⟩
    have HNb := Lib.hid hnb
    rw [← hnb] at hO ⊢
    clear hcb hnb
    by_cases hlt : j < N
    · obtain ⟨ad, rfl, hat⟩ := (HL.out.below hB.out) j (by rw [← HN.out]; exact hlt)
      obtain ⟨x, hx⟩ : ∃ x, x = l[j]'(by rw [← HN.out]; exact hlt) := ⟨_, rfl⟩
      rw [← hx] at hat
      have HX := Lib.hid hx
      clear hx
      obtain ⟨k, tx, sp, no, Ad, d, cd⟩ := x
      obtain ⟨dl, hdl⟩ : ∃ dl, dl = d.length := ⟨_, rfl⟩
      have c0 : wr.cell? (ad.add (j * 5)) = some (.int .i64 k) := hat.c0
      have c1 : wr.cell? ⟨(ad.add (j * 5)).block, (ad.add (j * 5)).off + 1, none⟩ = some (.int .u64 (U64 tx)) := hat.c1
      have c2 : wr.cell? ⟨(ad.add (j * 5)).block, (ad.add (j * 5)).off + 2, none⟩ = some (.int .i64 sp) := hat.c2
      have c3 : wr.cell? ⟨(ad.add (j * 5)).block, (ad.add (j * 5)).off + 3, none⟩ = some (.int .i64 no) := hat.c3
      have c4 : wr.cell? ⟨(ad.add (j * 5)).block, (ad.add (j * 5)).off + 4, none⟩ = some (.slice Ad dl cd) := by rw [hdl]; exact hat.c4
      have HRd := Lib.hid (show Rd b8 wr w.heap.size Ad d from hat.ok.rd)
      have HDL := Lib.hid hdl
      have p1 : (0 : Int) ≤ (j : Int) := by omega
      have p2 : (j : Int) < (N : Int) := by omega
      have hdl0 := Lib.hid hdl
      clear hat hdl
      by_cases h3 : 300 < dl
      · have p3 : 300 < (dl : Int) := by omega
        go_wp2_with fail
        go_ret
        exact ⟨rfl, hB.out⟩
      · have p3 : ¬ 300 < (dl : Int) := by omega
        by_cases hb : badR k sp no
        · have HE := Lib.hid (fun W => encode_no k tx sp no Ad dl cd W 1 (by decide) (fun W => check_bad k tx sp no Ad dl cd W hb))
          unfold recV at HE
          clear hb
          go_wp2_with fail
          refine Calls.mono (HE.out _) ?_
          rintro e w2 ⟨rfl, b2⟩
          have HB2 := Lib.hid (hB.out.trans (b2.mono hB.out.size))
          clear b2
          go_wp2_with fail
          go_ret
          exact ⟨rfl, HB2.out⟩
        · obtain ⟨k', rfl⟩ : ∃ s : Nat, k = (s : Int) := ⟨k.toNat, by unfold badR at hb; omega⟩
          obtain ⟨sp', rfl⟩ : ∃ s : Nat, sp = (s : Int) := ⟨sp.toNat, by unfold badR at hb; omega⟩
          obtain ⟨no', rfl⟩ : ∃ s : Nat, no = (s : Int) := ⟨no.toNat, by unfold badR at hb; omega⟩
          have hdl5 : d.length ≤ 300 := by rw [← HDL.out]; omega
          have HE := Lib.hid (encode_ok k' tx sp' no' Ad d cd wr hb (by omega) (HRd.out.more hB.out.size))
          rw [← HDL.out] at HE
          unfold recV at HE
          have HY : Hid ((⟨k', tx, sp', no', d⟩ : Rn).ok ∧ d.length ≤ 300) := Lib.hid ⟨⟨hb, by show d.length ≤ 4096; omega⟩, hdl5⟩
          have HEL := Lib.hid (encRL_len k' tx sp' no' d)
          clear hb hdl5
          go_wp2_with fail
          refine Calls.mono HE.out ?_
          rintro e w2 ⟨A2, k2, rfl, hk2, hr2, b2, ha2⟩
          obtain ⟨el, hel⟩ : ∃ n, n = (encRL k' tx sp' no' d).length := ⟨_, rfl⟩
          have HEl := Lib.hid hel
          rw [← hel]
          have HB2 := Lib.hid (hB.out.trans (b2.mono hB.out.size))
          have HO2 := Lib.hid (show Ow b8 5 w2 w.heap.size (.slice Ab nb cb) (encs L) from hO.out.below b2)
          have HR2 := Lib.hid hr2
          clear hel b2 hr2 ha2 hk2 HE c0 c1 c2 c3 c4 hO HRb
          have HLN := Lib.hid (show (encs L).length + (encRL k' tx sp' no' d).length ≤ 10000 from by have := hEn.out; have := HEL.out; have := HY.out.2; omega)
          go_wp2_with (at_builtin; refine wp_app one8 b8_one rfl (.tmp 38) (.tmp 39) rfl w.heap.size (.slice Ab nb cb) (encs L) rfl HO2.out A2 el k2 (encRL k' tx sp' no' d) rfl HEl.out _ HR2.out (by have := HLN.out; omega) (by decide) HB2.out.size ?_; intro v6 w6 ho6 hb6 _ _; have HO6 := Lib.hid ho6; have HB6 := Lib.hid (HB2.out.trans hb6); clear ho6 hb6)
          have hen : encs (L ++ [⟨k', tx, sp', no', d⟩]) = encs L ++ encRL k' tx sp' no' d := by unfold encs; rw [List.flatMap_append]; simp [Rn.enc]
          go_roundw
          case rel =>
            refine ⟨j + 1, v6, L ++ [⟨k', tx, sp', no', d⟩], by go_num, rfl, by rw [← HN.out]; omega, Lib.hid (by simp [hLl.out]), Lib.hid ?_, Lib.hid ?_, Lib.hid (by rw [hen]; exact HO6.out), Lib.hid ?_, HB6⟩
            · intro m hm hm2
              rw [List.getElem_append]
              split
              · exact hM.out m hm _
              · have hmj : m = j := by have := hLl.out; simp at hm2; omega
                subst hmj
                rw [← HX.out]
                simp only [List.getElem_singleton]
                exact ⟨rfl, rfl, rfl, rfl, rfl⟩
            · intro y hy
              rcases List.mem_append.1 hy with h | h
              · exact hOk.out y h
              · have : y = ⟨k', tx, sp', no', d⟩ := by simpa using h
                subst this
                exact HY.out
            · rw [hen, List.length_append]
              have := hEn.out; have := HEL.out; have := HY.out.2
              omega
          case measure => (first | (simp [intOf]; done) | (simp [intOf]; omega))
    · have hjN : j = N := by omega
      subst hjN
      have HA := Lib.hid (all_c L Ab cb wr (fun y hy => (hOk.out y hy).1) (by have := hLl.out; omega) (by have := hEn.out; omega) HCB.out HRb.out)
      rw [← HNb.out] at HA
      have HH := Lib.hid (show (encs L).length ≤ 8000 from by have := hEn.out; omega)
      clear hO HRb HCB
      go_wp2_with fail
      refine Calls.mono HA.out ?_
      rintro e w7 ⟨A7, c7, rfl, hrow, b7⟩
      rw [hLl.out]
      have HRow := Lib.hid hrow
      have HB7 := Lib.hid (hB.out.trans (b7.mono hB.out.size))
      clear hrow b7 HA
      go_wp2_with fail
      go_loopw [9] (fun i wr => ∃ k : Nat, i = .int .i64 k ∧ k ≤ j ∧ Hid (Below w7.heap.size w7 wr)) (fun i _ => j - (intOf i).toNat)
      case atStart => exact ⟨0, rfl, Nat.zero_le _, Lib.hid (Below.refl _ _)⟩
      case round =>
        obtain ⟨W7, hW7⟩ : ∃ x, x = wr := ⟨_, rfl⟩
        obtain ⟨k, rfl, hk, hBk⟩ := hrel
        by_cases hlt2 : k < j
        · have HBw := Lib.hid (HB7.out.trans (hBk.out.mono HB7.out.size))
          obtain ⟨al, rfl, hal⟩ := (HL.out.below HBw.out) k (by rw [← HN.out]; exact hlt2)
          obtain ⟨am, Dm, cm, rfl, hbm, m0, m1, m2, m3, m4, mrd⟩ := (HRow.out.below hBk.out) k (by rw [hLl.out]; exact hlt2)
          have hMk := hM.out k (by rw [← HN.out]; exact hlt2) (by rw [hLl.out]; exact hlt2)
          obtain ⟨y, hy⟩ : ∃ y, y = L[k]'(by rw [hLl.out]; exact hlt2) := ⟨_, rfl⟩
          obtain ⟨x, hx⟩ : ∃ x, x = l[k]'(by rw [← HN.out]; exact hlt2) := ⟨_, rfl⟩
          rw [← hy] at m0 m1 m2 m3 m4 mrd
          rw [← hx] at hal
          rw [← hx, ← hy] at hMk
          clear hx hy
          obtain ⟨kx, tx, sp, no, Ax, dx, cx⟩ := x
          obtain ⟨ky, ty, sy, ny, dy⟩ := y
          obtain ⟨q1, q2, q3, q4, q5⟩ := hMk
          dsimp only at q1 q2 q3 q4 q5 m0 m1 m2 m3 m4 mrd
          subst q1 q2 q3 q4 q5
          obtain ⟨dl, hdl⟩ : ∃ dl, dl = dx.length := ⟨_, rfl⟩
          have HDL := Lib.hid hdl
          have HM5 := Lib.hid (show Rec5 _ (am.add (k * 5)) ky tx sy ny Dm dl cm from ⟨m0, m1, m2, m3, by rw [hdl]; exact m4⟩)
          have HL5 := Lib.hid (show Rec5 _ (al.add (k * 5)) ky tx sy ny Ax dl cx from ⟨hal.c0, hal.c1, hal.c2, hal.c3, by rw [hdl]; exact hal.c4⟩)
          have HRm := Lib.hid (mrd.more hBk.out.size)
          have HRx := Lib.hid (show Rd b8 _ _ Ax dx from hal.ok.rd.more HBw.out.size)
          have HBm := Lib.hid (Nat.lt_of_lt_of_le hbm hBk.out.size)
          have HBl := Lib.hid (Nat.lt_of_lt_of_le hal.blk HBw.out.size)
          have p1 : (0 : Int) ≤ (k : Int) := by omega
          have p2 : (k : Int) < (j : Int) := by omega
          clear m0 m1 m2 m3 m4 mrd hal hbm hdl
          go_wp2_with fail
          refine rr_reg _ _ _ am al j c7 c k dl cm cx ky sy ny tx Dm Ax dx HDL p2 p1 (by rw [add_block]; exact HBm.out) (by rw [add_block]; exact HBl.out) HM5.out HL5.out HRm.out HRx.out rfl rfl rfl rfl ?_
          intro vals w9 hG h2
          unfold IsV at h2
          simp only [putD, Act.put, List.setIfInBounds_toArray, List.set_cons_zero, List.set_cons_succ, h2]
          have HB9 := Lib.hid (hBk.out.trans (hG.mono hBk.out.size))
          clear h2 hG
          go_wp2_with fail
          go_roundw
          case rel => exact ⟨k + 1, by go_num, by omega, HB9⟩
          case measure => (first | (simp [intOf]; done) | (simp [intOf]; omega))
        · have hkj : k = j := by omega
          subst hkj
          have HBw := Lib.hid (HB7.out.trans (hBk.out.mono HB7.out.size))
          go_wp2_with fail
          go_ret
          exact ⟨rfl, HBw.out⟩
theorem rows_walk (w : World) (A : Option Addr) (l : List Rc) (c : Nat) (_g : l.length ≤ c) (_m : c ≤ maxLen) (hl : Rcs w w.heap.size A l) : Calls Try.prog 4 #[.slice A l.length c] w (TruP (.bool true) w) := by
  by_cases h : 20 < l.length
  · exact rows_many w A l.length c h
  · exact rows_in w A l c hl h
end Go.Proofs.Ytoigahkgdanjnaa
namespace Go.Proofs.Ytoigahkgdanjnaa.recordRows
open Go.ChangeShapes Go.WideShapes Go.ChangeAt Go.RowKit
open Go.ChangeMaps (open_string shut_string)
set_option linter.unusedVariables false
set_option maxRecDepth 100000 in
theorem lifted (os : Os) (started : os.Started) (H : Type) (enc : TypeId × Value → H) :
    ReturnsInHanded {} Try.checked os 4 .any (Rows.recordRowsSpec.pre6 enc Try.prog Try.f4 Rows.recordRowsRow.domain false) (Rows.recordRowsSpec.post enc Try.prog Try.f4 false true false false) := by
  refine returnsInHanded_of_change (C := Try.checked) own started (by kernel_rfl) Try.func4
    (ChangeSpec.witness6 (enc := enc) (C := Try.checked) false ⟨#[], #[.slice none 0 0], []⟩ 8 (by kernel_rfl) (by kernel_rfl) (by kernel_rfl) (by kernel_rfl)) ?_
  intro W base args ds gs before hval0 hW hcnd _
  have hval : ∀ (j : Nat) t v, Try.f4.params[j]? = some t → args[j]? = some v → Value.okWide Try.prog W .any base t v := hval0
  have hW' := hW
  obtain ⟨p, q, hA0, hV, rfl, hfz, hnd⟩ := hW
  have hA : DataW.TrodAll enc Try.prog W 0 (fun _ => true) true Try.f4.params.toList args.toList ds p := hA0
  rw [Try.params4] at hA hval
  obtain ⟨v0, vs0, d0, ds0, p0, q0, hargs, rfl, rfl, h0, r0⟩ := trodAll_cons hA
  obtain ⟨rfl, rfl, rfl⟩ := trodAll_nil r0
  obtain rfl : args = #[v0] := by cases args; simp_all
  obtain ⟨rfl, rfl⟩ := trodVars_none hV
  have k0 := h0
  have lt0 : ∀ x ∈ p0, x.block < W.heap.size := by obtain ⟨m, hm⟩ := k0; exact DataW.trod_lt m _ _ _ hm
  obtain ⟨A0, a0, c0, e0v, g0, m0, w0⟩ := open_rows_Record (hval 0 43 v0 rfl rfl) h0; subst e0v
  clear hA0 hval0
  refine (rows_walk W A0 a0 c0 g0 m0 w0).mono fun e W' ⟨he, bel⟩ => ?_
  subst he
  exact ⟨_, rfl, _, _, _, [], _, [], hW', trodAll_mk1 (shut_bool Try.underlying4 _), (trodAll_cons_mk (Below.trod laidOut (by kernel_rfl) (of_decide_eq_true (by kernel_rfl)) k0 bel lt0) trodAll_mk0), rfl, bel.frame _, fun h => by cases h⟩
theorem over : Rows.recordRowsRow.holds Try.pinned (OpenSpec.ofChange Rows.recordRowsSpec) :=
  OpenClaim.holds_of_wide 4 Try.f4 rfl rfl rfl rfl rfl rfl rfl ⟨rfl, rfl, rfl, rfl, rfl⟩ rfl rfl rfl rfl rfl (by kernel_rfl) Try.func4 (by kernel_rfl)
    (of_decide_eq_true (by kernel_rfl)) (by unfold Func.isWrapper; first | (rw [if_pos (by decide +kernel)]; kernel_rfl) | (rw [if_neg (by decide +kernel)]; exact ⟨rfl, rfl⟩))
    (fun os started H enc _ => lifted os started H enc)
theorem proved : Rows.RecordRowsSaid := over
end Go.Proofs.Ytoigahkgdanjnaa.recordRows
