/- The test behind each act of the play; the law where nothing is played. Conditions: those of the ways. -/
import Derived.Test.YtfcbmdmkdjaoaaaMdV
namespace Go.Proofs.Ytfcbmdmkdjaoaaa
set_option linter.unusedVariables false
set_option linter.unusedSimpArgs false
open Go.RowKit Go.Maps
set_option maxRecDepth 100000
theorem strB_app (x y : List (BitVec 8)) : strB x ++ strB y = strB (x ++ y) := by
  unfold strB strL
  apply ByteArray.ext
  simp
theorem strB_size (x : List (BitVec 8)) : (strB x).size = x.length := by
  unfold strB strL
  simp [ByteArray.size]
theorem iv_of {f : FuncId} {args : Array Value} {w : World} {u : Value} (h : Calls Try.prog f args w fun e w' => e = .returned u ∧ w' = w) : Calls Try.prog f args w fun e w2 => ∃ v, e = .returned v ∧ Below w.heap.size w w2 ∧ IsV u v w2 :=
  h.mono fun e w2 h => ⟨u, h.1, by rw [h.2]; exact Below.refl _ _, rfl⟩
set_option maxHeartbeats 400000
theorem chk_reg (Q : Exit → Act → World → Prop) (a0 : Act) (w : World) (B g2 gm P wn wc : Nat) (wA : Option Addr) (off : Bool) (X : Nat → Prop) (d : DK) (hd : DiskX B X w g2 d) (hg : gm < w.heap.size) (c2 : w.cell? ⟨gm, 2, none⟩ = some (.slice wA P wc)) (c3 : w.cell? ⟨gm, 3, none⟩ = some (.bool off)) (c7 : w.cell? ⟨gm, 7, none⟩ = some (.int .i64 wn)) (e1 : d.off = off) (e2 : d.pend.length = P) (e3 : d.writes = wn) (hsz : a0.tmps.size = 362) (sl7 : a0.tmps.getD 7 undef = .pointer (some ⟨g2, 0, none⟩)) (sl10 : a0.tmps.getD 10 undef = .pointer (some ⟨gm, 0, none⟩))
    (fin : ∀ (vals : Nat → Value) (w1 : World), Below w.heap.size w w1 → (IsV (.bool false)) (vals 25) w1 → Q .normal (putD vals [302, 303, 304, 305, 306, 307, 308, 309, 310, 311, 312, 313, 314, 315, 316, 317, 318, 319, 320, 321, 322, 323, 324, 325, 326, 327] 0 a0) w1) :
    (Code.region 71 (regIn Try.f3 71) true).wp Try.prog Q a0 w := by
  refine region_by (G := fun w w1 => Below w.heap.size w w1) [IsV (.pointer (some ⟨g2, 0, none⟩)),
    IsV (.bool off),
    IsV (.pointer (some ⟨gm, 0, none⟩)),
    IsV (.pointer (some ⟨gm, 0, none⟩)),
    IsV (.pointer (some ⟨gm, 3, none⟩)),
    IsV (.bool off),
    IsV (.bool false),
    IsV (.bool false),
    IsV (.pointer (some ⟨g2, 0, none⟩)),
    IsV (.int .i64 P),
    IsV (.pointer (some ⟨gm, 0, none⟩)),
    IsV (.pointer (some ⟨gm, 0, none⟩)),
    IsV (.pointer (some ⟨gm, 2, none⟩)),
    IsV (.slice wA P wc),
    IsV (.int .i64 P),
    IsV (.bool false),
    IsV (.bool false),
    IsV (.bool false),
    IsV (.pointer (some ⟨g2, 0, none⟩)),
    IsV (.int .i64 wn),
    IsV (.pointer (some ⟨gm, 0, none⟩)),
    IsV (.pointer (some ⟨gm, 0, none⟩)),
    IsV (.pointer (some ⟨gm, 7, none⟩)),
    IsV (.int .i64 wn),
    IsV (.bool false),
    IsV (.bool false)]
    [302, 303, 304, 305, 306, 307, 308, 309, 310, 311, 312, 313, 314, 315, 316, 317, 318, 319, 320, 321, 322, 323, 324, 325, 326, 327] (by kernel_rfl) (Gw.drew _) Gw.trans (by rw [hsz]; kernel_rfl) (by kernel_rfl) ?_ ?_ ?_
  · intro f hf
    simp only [List.mem_cons, List.not_mem_nil, or_false] at hf
    rcases hf with rfl | rfl | rfl | rfl | rfl | rfl | rfl | rfl | rfl | rfl | rfl | rfl | rfl | rfl | rfl | rfl | rfl | rfl | rfl | rfl | rfl | rfl | rfl | rfl | rfl | rfl <;> intro v a b h g <;> first | exact IsV.mono h
  · refine ⟨?_, ?_, ?_, ?_, ?_, ?_, ?_, ?_, ?_, ?_, ?_, ?_, ?_, ?_, ?_, ?_, ?_, ?_, ?_, ?_, ?_, ?_, ?_, ?_, ?_, ?_, trivial⟩
    · exact owes_mv 7 (by kernel_rfl) (by kernel_rfl) (by kernel_rfl) sl7 (fun _ => rfl)
    · refine owes_v (Go.Op.call { callee := Go.Callee.value (Go.Operand.func 20), args := #[Go.Operand.tmp 302], argTypes := #[24] }) 4 [0] (by kernel_rfl) (by kernel_rfl) (by kernel_rfl) rfl fun vals w1 ρ hG hF hρ hcst hfun => ?_
      have e302 : ρ (.tmp 302) = .pointer (some ⟨g2, 0, none⟩) := ((hρ 302).trans (slotJ [0] (by rw [hsz]; decide) (by kernel_rfl))).trans (hF 0 (by decide))
      clear hρ hF hcst sl7 sl10 fin
      exact opv_enter (by go_simp <;> rfl) ((e1 ▸ iv_of (xoff_c (hd.below hG))))
    · exact owes_mv 10 (by kernel_rfl) (by kernel_rfl) (by kernel_rfl) sl10 (fun _ => rfl)
    · refine owes_v (Go.Op.nilCheck (Go.Operand.tmp 304)) 0 [2] (by kernel_rfl) (by kernel_rfl) (by kernel_rfl) rfl fun vals w1 ρ hG hF hρ hcst hfun => ?_
      have e304 : ρ (.tmp 304) = .pointer (some ⟨gm, 0, none⟩) := ((hρ 304).trans (slotJ [2] (by rw [hsz]; decide) (by kernel_rfl))).trans (hF 2 (by decide))
      clear hρ hF hcst hfun sl7 sl10 fin
      exact opv_val (by go_simp <;> rfl) ⟨gw_self _, rfl⟩
    · refine owes_v (Go.Op.fieldAddr 33 (Go.Operand.tmp 305) 3) 0 [3] (by kernel_rfl) (by kernel_rfl) (by kernel_rfl) rfl fun vals w1 ρ hG hF hρ hcst hfun => ?_
      have e305 : ρ (.tmp 305) = .pointer (some ⟨gm, 0, none⟩) := ((hρ 305).trans (slotJ [3] (by rw [hsz]; decide) (by kernel_rfl))).trans (hF 3 (by decide))
      clear hρ hF hcst hfun sl7 sl10 fin
      exact opv_val (by go_simp <;> rfl) ⟨gw_self _, rfl⟩
    · refine owes_v (Go.Op.load 4 (Go.Operand.tmp 306)) 4 [4] (by kernel_rfl) (by kernel_rfl) (by kernel_rfl) rfl fun vals w1 ρ hG hF hρ hcst hfun => ?_
      have e306 : ρ (.tmp 306) = .pointer (some ⟨gm, 3, none⟩) := ((hρ 306).trans (slotJ [4] (by rw [hsz]; decide) (by kernel_rfl))).trans (hF 4 (by decide))
      have k := (hG.cell (p := ⟨gm, 3, none⟩) hg).trans c3
      clear hρ hF hcst hfun sl7 sl10 fin
      exact opv_val (by go_simp <;> rfl) ⟨gw_self _, rfl⟩
    · refine owes_v (Go.Op.binOp Go.BinOp.neq 4 (Go.Operand.tmp 303) (Go.Operand.tmp 307) 4) 4 [1, 5] (by kernel_rfl) (by kernel_rfl) (by kernel_rfl) rfl fun vals w1 ρ hG hF hρ hcst hfun => ?_
      have e303 : ρ (.tmp 303) = .bool off := ((hρ 303).trans (slotJ [1, 5] (by rw [hsz]; decide) (by kernel_rfl))).trans (hF 1 (by decide))
      have e307 : ρ (.tmp 307) = .bool off := ((hρ 307).trans (slotJ [1, 5] (by rw [hsz]; decide) (by kernel_rfl))).trans (hF 5 (by decide))
      clear hρ hF hcst hfun sl7 sl10 fin
      exact opv_val (by go_simp <;> rfl) ⟨gw_self _, rfl⟩
    · exact owes_mvj 6 308 (by kernel_rfl) (by kernel_rfl) (by kernel_rfl) (by kernel_rfl) (by rw [hsz]; decide) (fun v w h => h)
    · refine owes_vt 7 false (Go.Op.move (Go.Operand.tmp 7)) 24 [] (by kernel_rfl) (by kernel_rfl) (by kernel_rfl) (fun _ _ h => h) (by rw [hsz]; kernel_rfl) (by kernel_rfl) rfl fun vals w1 ρ hG hF hρ hcst hfun => ?_
      have e7 : ρ (.tmp 7) = .pointer (some ⟨g2, 0, none⟩) := ((hρ 7).trans (slotO [] (by kernel_rfl))).trans sl7
      clear hρ hF hcst hfun sl7 sl10 fin
      exact opv_val (by go_simp <;> rfl) ⟨gw_self _, rfl⟩
    · refine owes_vt 7 false (Go.Op.call { callee := Go.Callee.value (Go.Operand.func 21), args := #[Go.Operand.tmp 310], argTypes := #[24] }) 3 [8] (by kernel_rfl) (by kernel_rfl) (by kernel_rfl) (fun _ _ h => h) (by rw [hsz]; kernel_rfl) (by kernel_rfl) rfl fun vals w1 ρ hG hF hρ hcst hfun => ?_
      have e310 : ρ (.tmp 310) = .pointer (some ⟨g2, 0, none⟩) := ((hρ 310).trans (slotJ [8] (by rw [hsz]; decide) (by kernel_rfl))).trans (hF 8 (by decide))
      clear hρ hF hcst sl7 sl10 fin
      exact opv_enter (by go_simp <;> rfl) ((e2 ▸ iv_of (xpending_c (hd.below hG))))
    · refine owes_vt 7 false (Go.Op.move (Go.Operand.tmp 10)) 28 [] (by kernel_rfl) (by kernel_rfl) (by kernel_rfl) (fun _ _ h => h) (by rw [hsz]; kernel_rfl) (by kernel_rfl) rfl fun vals w1 ρ hG hF hρ hcst hfun => ?_
      have e10 : ρ (.tmp 10) = .pointer (some ⟨gm, 0, none⟩) := ((hρ 10).trans (slotO [] (by kernel_rfl))).trans sl10
      clear hρ hF hcst hfun sl7 sl10 fin
      exact opv_val (by go_simp <;> rfl) ⟨gw_self _, rfl⟩
    · refine owes_vt 7 false (Go.Op.nilCheck (Go.Operand.tmp 312)) 0 [10] (by kernel_rfl) (by kernel_rfl) (by kernel_rfl) (fun _ _ h => h) (by rw [hsz]; kernel_rfl) (by kernel_rfl) rfl fun vals w1 ρ hG hF hρ hcst hfun => ?_
      have e312 : ρ (.tmp 312) = .pointer (some ⟨gm, 0, none⟩) := ((hρ 312).trans (slotJ [10] (by rw [hsz]; decide) (by kernel_rfl))).trans (hF 10 (by decide))
      clear hρ hF hcst hfun sl7 sl10 fin
      exact opv_val (by go_simp <;> rfl) ⟨gw_self _, rfl⟩
    · refine owes_vt 7 false (Go.Op.fieldAddr 33 (Go.Operand.tmp 313) 2) 0 [11] (by kernel_rfl) (by kernel_rfl) (by kernel_rfl) (fun _ _ h => h) (by rw [hsz]; kernel_rfl) (by kernel_rfl) rfl fun vals w1 ρ hG hF hρ hcst hfun => ?_
      have e313 : ρ (.tmp 313) = .pointer (some ⟨gm, 0, none⟩) := ((hρ 313).trans (slotJ [11] (by rw [hsz]; decide) (by kernel_rfl))).trans (hF 11 (by decide))
      clear hρ hF hcst hfun sl7 sl10 fin
      exact opv_val (by go_simp <;> rfl) ⟨gw_self _, rfl⟩
    · refine owes_vt 7 false (Go.Op.load 30 (Go.Operand.tmp 314)) 30 [12] (by kernel_rfl) (by kernel_rfl) (by kernel_rfl) (fun _ _ h => h) (by rw [hsz]; kernel_rfl) (by kernel_rfl) rfl fun vals w1 ρ hG hF hρ hcst hfun => ?_
      have e314 : ρ (.tmp 314) = .pointer (some ⟨gm, 2, none⟩) := ((hρ 314).trans (slotJ [12] (by rw [hsz]; decide) (by kernel_rfl))).trans (hF 12 (by decide))
      have k := (hG.cell (p := ⟨gm, 2, none⟩) hg).trans c2
      clear hρ hF hcst hfun sl7 sl10 fin
      exact opv_val (by go_simp <;> rfl) ⟨gw_self _, rfl⟩
    · refine owes_vt 7 false (Go.Op.call { callee := Go.Callee.builtin Go.Builtin.len, args := #[Go.Operand.tmp 315], argTypes := #[30] }) 3 [13] (by kernel_rfl) (by kernel_rfl) (by kernel_rfl) (fun _ _ h => h) (by rw [hsz]; kernel_rfl) (by kernel_rfl) rfl fun vals w1 ρ hG hF hρ hcst hfun => ?_
      have e315 : ρ (.tmp 315) = .slice wA P wc := ((hρ 315).trans (slotJ [13] (by rw [hsz]; decide) (by kernel_rfl))).trans (hF 13 (by decide))
      clear hρ hF hcst hfun sl7 sl10 fin
      exact opv_val (by go_simp <;> rfl) ⟨gw_self _, rfl⟩
    · refine owes_vt 7 false (Go.Op.binOp Go.BinOp.neq 3 (Go.Operand.tmp 311) (Go.Operand.tmp 316) 3) 4 [9, 14] (by kernel_rfl) (by kernel_rfl) (by kernel_rfl) (fun _ _ h => h) (by rw [hsz]; kernel_rfl) (by kernel_rfl) rfl fun vals w1 ρ hG hF hρ hcst hfun => ?_
      have e311 : ρ (.tmp 311) = .int .i64 P := ((hρ 311).trans (slotJ [9, 14] (by rw [hsz]; decide) (by kernel_rfl))).trans (hF 9 (by decide))
      have e316 : ρ (.tmp 316) = .int .i64 P := ((hρ 316).trans (slotJ [9, 14] (by rw [hsz]; decide) (by kernel_rfl))).trans (hF 14 (by decide))
      clear hρ hF hcst hfun sl7 sl10 fin
      exact opv_val (by go_simp <;> rfl) ⟨gw_self _, rfl⟩
    · refine owes_v (Go.Op.pick (Go.Operand.tmp 309) (Go.Operand.const (Go.Value.bool true)) (Go.Operand.tmp 317)) 4 [7, 15] (by kernel_rfl) (by kernel_rfl) (by kernel_rfl) rfl fun vals w1 ρ hG hF hρ hcst hfun => ?_
      have e309 : ρ (.tmp 309) = .bool false := ((hρ 309).trans (slotJ [7, 15] (by rw [hsz]; decide) (by kernel_rfl))).trans (hF 7 (by decide))
      have e317 : ρ (.tmp 317) = .bool false := ((hρ 317).trans (slotJ [7, 15] (by rw [hsz]; decide) (by kernel_rfl))).trans (hF 15 (by decide))
      clear hρ hF hfun sl7 sl10 fin
      exact opv_val (by go_simp <;> rfl) ⟨gw_self _, rfl⟩
    · exact owes_mvj 16 318 (by kernel_rfl) (by kernel_rfl) (by kernel_rfl) (by kernel_rfl) (by rw [hsz]; decide) (fun v w h => h)
    · refine owes_vt 17 false (Go.Op.move (Go.Operand.tmp 7)) 24 [] (by kernel_rfl) (by kernel_rfl) (by kernel_rfl) (fun _ _ h => h) (by rw [hsz]; kernel_rfl) (by kernel_rfl) rfl fun vals w1 ρ hG hF hρ hcst hfun => ?_
      have e7 : ρ (.tmp 7) = .pointer (some ⟨g2, 0, none⟩) := ((hρ 7).trans (slotO [] (by kernel_rfl))).trans sl7
      clear hρ hF hcst hfun sl7 sl10 fin
      exact opv_val (by go_simp <;> rfl) ⟨gw_self _, rfl⟩
    · refine owes_vt 17 false (Go.Op.call { callee := Go.Callee.value (Go.Operand.func 22), args := #[Go.Operand.tmp 320], argTypes := #[24] }) 3 [18] (by kernel_rfl) (by kernel_rfl) (by kernel_rfl) (fun _ _ h => h) (by rw [hsz]; kernel_rfl) (by kernel_rfl) rfl fun vals w1 ρ hG hF hρ hcst hfun => ?_
      have e320 : ρ (.tmp 320) = .pointer (some ⟨g2, 0, none⟩) := ((hρ 320).trans (slotJ [18] (by rw [hsz]; decide) (by kernel_rfl))).trans (hF 18 (by decide))
      clear hρ hF hcst sl7 sl10 fin
      exact opv_enter (by go_simp <;> rfl) ((e3 ▸ iv_of (xwrites_c (hd.below hG))))
    · refine owes_vt 17 false (Go.Op.move (Go.Operand.tmp 10)) 28 [] (by kernel_rfl) (by kernel_rfl) (by kernel_rfl) (fun _ _ h => h) (by rw [hsz]; kernel_rfl) (by kernel_rfl) rfl fun vals w1 ρ hG hF hρ hcst hfun => ?_
      have e10 : ρ (.tmp 10) = .pointer (some ⟨gm, 0, none⟩) := ((hρ 10).trans (slotO [] (by kernel_rfl))).trans sl10
      clear hρ hF hcst hfun sl7 sl10 fin
      exact opv_val (by go_simp <;> rfl) ⟨gw_self _, rfl⟩
    · refine owes_vt 17 false (Go.Op.nilCheck (Go.Operand.tmp 322)) 0 [20] (by kernel_rfl) (by kernel_rfl) (by kernel_rfl) (fun _ _ h => h) (by rw [hsz]; kernel_rfl) (by kernel_rfl) rfl fun vals w1 ρ hG hF hρ hcst hfun => ?_
      have e322 : ρ (.tmp 322) = .pointer (some ⟨gm, 0, none⟩) := ((hρ 322).trans (slotJ [20] (by rw [hsz]; decide) (by kernel_rfl))).trans (hF 20 (by decide))
      clear hρ hF hcst hfun sl7 sl10 fin
      exact opv_val (by go_simp <;> rfl) ⟨gw_self _, rfl⟩
    · refine owes_vt 17 false (Go.Op.fieldAddr 33 (Go.Operand.tmp 323) 7) 0 [21] (by kernel_rfl) (by kernel_rfl) (by kernel_rfl) (fun _ _ h => h) (by rw [hsz]; kernel_rfl) (by kernel_rfl) rfl fun vals w1 ρ hG hF hρ hcst hfun => ?_
      have e323 : ρ (.tmp 323) = .pointer (some ⟨gm, 0, none⟩) := ((hρ 323).trans (slotJ [21] (by rw [hsz]; decide) (by kernel_rfl))).trans (hF 21 (by decide))
      clear hρ hF hcst hfun sl7 sl10 fin
      exact opv_val (by go_simp <;> rfl) ⟨gw_self _, rfl⟩
    · refine owes_vt 17 false (Go.Op.load 3 (Go.Operand.tmp 324)) 3 [22] (by kernel_rfl) (by kernel_rfl) (by kernel_rfl) (fun _ _ h => h) (by rw [hsz]; kernel_rfl) (by kernel_rfl) rfl fun vals w1 ρ hG hF hρ hcst hfun => ?_
      have e324 : ρ (.tmp 324) = .pointer (some ⟨gm, 7, none⟩) := ((hρ 324).trans (slotJ [22] (by rw [hsz]; decide) (by kernel_rfl))).trans (hF 22 (by decide))
      have k := (hG.cell (p := ⟨gm, 7, none⟩) hg).trans c7
      clear hρ hF hcst hfun sl7 sl10 fin
      exact opv_val (by go_simp <;> rfl) ⟨gw_self _, rfl⟩
    · refine owes_vt 17 false (Go.Op.binOp Go.BinOp.neq 3 (Go.Operand.tmp 321) (Go.Operand.tmp 325) 3) 4 [19, 23] (by kernel_rfl) (by kernel_rfl) (by kernel_rfl) (fun _ _ h => h) (by rw [hsz]; kernel_rfl) (by kernel_rfl) rfl fun vals w1 ρ hG hF hρ hcst hfun => ?_
      have e321 : ρ (.tmp 321) = .int .i64 wn := ((hρ 321).trans (slotJ [19, 23] (by rw [hsz]; decide) (by kernel_rfl))).trans (hF 19 (by decide))
      have e325 : ρ (.tmp 325) = .int .i64 wn := ((hρ 325).trans (slotJ [19, 23] (by rw [hsz]; decide) (by kernel_rfl))).trans (hF 23 (by decide))
      clear hρ hF hcst hfun sl7 sl10 fin
      exact opv_val (by go_simp <;> rfl) ⟨gw_self _, rfl⟩
    · refine owes_v (Go.Op.pick (Go.Operand.tmp 319) (Go.Operand.const (Go.Value.bool true)) (Go.Operand.tmp 326)) 4 [17, 24] (by kernel_rfl) (by kernel_rfl) (by kernel_rfl) rfl fun vals w1 ρ hG hF hρ hcst hfun => ?_
      have e319 : ρ (.tmp 319) = .bool false := ((hρ 319).trans (slotJ [17, 24] (by rw [hsz]; decide) (by kernel_rfl))).trans (hF 17 (by decide))
      have e326 : ρ (.tmp 326) = .bool false := ((hρ 326).trans (slotJ [17, 24] (by rw [hsz]; decide) (by kernel_rfl))).trans (hF 24 (by decide))
      clear hρ hF hfun sl7 sl10 fin
      exact opv_val (by go_simp <;> rfl) ⟨gw_self _, rfl⟩
  · intro vals w1 hG hF
    exact fin vals w1 hG (hF 25 (by decide +kernel))
set_option maxHeartbeats 4000000
theorem dp_long (w : World) (A : Option Addr) (n c : Nat) (a b : Int) (hn : 80 < n) : Calls Try.prog 3 #[.int .i64 a, .int .i64 b, .slice A n c] w (TruP (.bool true) w) := by
  have t0 : decide ((80 : Int) < (n : Int)) = true := by simp; omega
  clear hn
  go_enter Try.func3, Try.ntmps3
  go_wp2_with fail
  refine Calls.mono (known3_c w) ?_
  rintro e w1 ⟨rfl, d1⟩
  have HB1 := Lib.hid d1
  clear d1
  go_wp2_with fail
  go_ret
  exact ⟨rfl, HB1.out⟩
theorem dp_range (w : World) (A : Option Addr) (n c : Nat) (a b : Int) (hn : n ≤ 80) (h : (64 < a ∧ a ≤ 16384) ∨ (256 < b ∧ b ≤ 1024)) : Calls Try.prog 3 #[.int .i64 a, .int .i64 b, .slice A n c] w (TruP (.bool true) w) := by
  have t0 : decide ((80 : Int) < (n : Int)) = false := by simp; omega
  clear hn
  by_cases h1 : 64 < a ∧ a ≤ 16384
  · have t1 : decide ((64 : Int) < a) = true := by simp; omega
    have t2 : decide (a ≤ (16384 : Int)) = true := by simp; omega
    clear h h1
    go_enter Try.func3, Try.ntmps3
    go_wp2_with fail
    refine Calls.mono (known3_c w) ?_
    rintro e w1 ⟨rfl, d1⟩
    have HB1 := Lib.hid d1
    clear d1
    go_wp2_with fail
    go_ret
    exact ⟨rfl, HB1.out⟩
  · have h2 : 256 < b ∧ b ≤ 1024 := by omega
    have t3 : decide ((256 : Int) < b) = true := by simp; omega
    have t4 : decide (b ≤ (1024 : Int)) = true := by simp; omega
    by_cases h3 : 64 < a
    · have t1 : decide ((64 : Int) < a) = true := by simp; omega
      have t2 : decide (a ≤ (16384 : Int)) = false := by simp; omega
      clear h h1 h2 h3
      go_enter Try.func3, Try.ntmps3
      go_wp2_with fail
      refine Calls.mono (known3_c w) ?_
      rintro e w1 ⟨rfl, d1⟩
      have HB1 := Lib.hid d1
      clear d1
      go_wp2_with fail
      go_ret
      exact ⟨rfl, HB1.out⟩
    · have t1 : decide ((64 : Int) < a) = false := by simp; omega
      clear h h1 h2 h3
      go_enter Try.func3, Try.ntmps3
      go_wp2_with fail
      refine Calls.mono (known3_c w) ?_
      rintro e w1 ⟨rfl, d1⟩
      have HB1 := Lib.hid d1
      clear d1
      go_wp2_with fail
      go_ret
      exact ⟨rfl, HB1.out⟩
theorem dp_bad (w : World) (A : Option Addr) (n c : Nat) (a b : Int) (hn : n ≤ 80) (h3 : ¬ (64 < a ∧ a ≤ 16384)) (h4 : ¬ (256 < b ∧ b ≤ 1024)) (h : okS a b = false) : Calls Try.prog 3 #[.int .i64 a, .int .i64 b, .slice A n c] w (TruP (.bool true) w) := by
  have HNew := Lib.hid (fun w => dnew_bad w a b h)
  have h5 : a < 1 ∨ 16384 < a ∨ b < 64 ∨ 1024 < b := by
    by_cases e1 : 1 ≤ a
    · by_cases e2 : a ≤ 16384
      · by_cases e3 : 64 ≤ b
        · by_cases e4 : b ≤ 1024
          · rw [okS, decide_eq_true e1, decide_eq_true e2, decide_eq_true e3, decide_eq_true e4] at h
            cases h
          · omega
        · omega
      · omega
    · omega
  have t0 : decide ((80 : Int) < (n : Int)) = false := by simp; omega
  clear hn h
  by_cases a1 : 1 ≤ a
  · have t5 : decide ((1 : Int) ≤ a) = true := by simp; omega
    by_cases a2 : a ≤ 64
    · have t1 : decide ((64 : Int) < a) = false := by simp; omega
      have t2 : decide (a ≤ (16384 : Int)) = true := by simp; omega
      by_cases b1 : 64 ≤ b
      · have t6 : decide ((64 : Int) ≤ b) = true := by simp; omega
        have t3 : decide ((256 : Int) < b) = true := by simp; omega
        have t4 : decide (b ≤ (1024 : Int)) = false := by simp; omega
        clear h3 h4 h5 a1 a2 b1
        go_enter Try.func3, Try.ntmps3
        go_wp2_with fail
        refine Calls.mono (known3_c w) ?_
        rintro e w1 ⟨rfl, d1⟩
        have HB1 := Lib.hid d1
        clear d1
        go_wp2_with fail
        refine Calls.mono (HNew.out w1) ?_
        rintro e w2 ⟨rfl, rfl⟩
        go_wp2_with fail
        go_ret
        exact ⟨rfl, HB1.out⟩
      · have t6 : decide ((64 : Int) ≤ b) = false := by simp; omega
        have t3 : decide ((256 : Int) < b) = false := by simp; omega
        clear h3 h4 h5 a1 a2 b1
        go_enter Try.func3, Try.ntmps3
        go_wp2_with fail
        refine Calls.mono (known3_c w) ?_
        rintro e w1 ⟨rfl, d1⟩
        have HB1 := Lib.hid d1
        clear d1
        go_wp2_with fail
        refine Calls.mono (HNew.out w1) ?_
        rintro e w2 ⟨rfl, rfl⟩
        go_wp2_with fail
        go_ret
        exact ⟨rfl, HB1.out⟩
    · have t1 : decide ((64 : Int) < a) = true := by simp; omega
      have t2 : decide (a ≤ (16384 : Int)) = false := by simp; omega
      by_cases b1 : b ≤ 256
      · have t3 : decide ((256 : Int) < b) = false := by simp; omega
        clear h3 h4 h5 a1 a2 b1
        go_enter Try.func3, Try.ntmps3
        go_wp2_with fail
        refine Calls.mono (known3_c w) ?_
        rintro e w1 ⟨rfl, d1⟩
        have HB1 := Lib.hid d1
        clear d1
        go_wp2_with fail
        refine Calls.mono (HNew.out w1) ?_
        rintro e w2 ⟨rfl, rfl⟩
        go_wp2_with fail
        go_ret
        exact ⟨rfl, HB1.out⟩
      · have t3 : decide ((256 : Int) < b) = true := by simp; omega
        have t4 : decide (b ≤ (1024 : Int)) = false := by simp; omega
        clear h3 h4 h5 a1 a2 b1
        go_enter Try.func3, Try.ntmps3
        go_wp2_with fail
        refine Calls.mono (known3_c w) ?_
        rintro e w1 ⟨rfl, d1⟩
        have HB1 := Lib.hid d1
        clear d1
        go_wp2_with fail
        refine Calls.mono (HNew.out w1) ?_
        rintro e w2 ⟨rfl, rfl⟩
        go_wp2_with fail
        go_ret
        exact ⟨rfl, HB1.out⟩
  · have t5 : decide ((1 : Int) ≤ a) = false := by simp; omega
    have t1 : decide ((64 : Int) < a) = false := by simp; omega
    by_cases b1 : b ≤ 256
    · have t3 : decide ((256 : Int) < b) = false := by simp; omega
      clear h3 h4 h5 a1 b1
      go_enter Try.func3, Try.ntmps3
      go_wp2_with fail
      refine Calls.mono (known3_c w) ?_
      rintro e w1 ⟨rfl, d1⟩
      have HB1 := Lib.hid d1
      clear d1
      go_wp2_with fail
      refine Calls.mono (HNew.out w1) ?_
      rintro e w2 ⟨rfl, rfl⟩
      go_wp2_with fail
      go_ret
      exact ⟨rfl, HB1.out⟩
    · have t3 : decide ((256 : Int) < b) = true := by simp; omega
      have t4 : decide (b ≤ (1024 : Int)) = false := by simp; omega
      clear h3 h4 h5 a1 b1
      go_enter Try.func3, Try.ntmps3
      go_wp2_with fail
      refine Calls.mono (known3_c w) ?_
      rintro e w1 ⟨rfl, d1⟩
      have HB1 := Lib.hid d1
      clear d1
      go_wp2_with fail
      refine Calls.mono (HNew.out w1) ?_
      rintro e w2 ⟨rfl, rfl⟩
      go_wp2_with fail
      go_ret
      exact ⟨rfl, HB1.out⟩
end Go.Proofs.Ytfcbmdmkdjaoaaa
