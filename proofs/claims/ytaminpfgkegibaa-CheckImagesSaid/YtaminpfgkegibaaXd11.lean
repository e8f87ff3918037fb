/- Texts joined: CkI CkJ CkK CkL CkM CkN CrD CrE. -/
import Derived.Test.YtaminpfgkegibaaXd10
import Derived.Test.YtaminpfgkegibaaBitsA
import Derived.Test.YtaminpfgkegibaaMmC
/- The document's Found, of right objects. Conditions: lengths. -/
namespace Go.Proofs.Ytaminpfgkegibaa
set_option linter.unusedVariables false
set_option linter.unusedSimpArgs false
open Go.RowKit Go.Maps
set_option maxHeartbeats 4000000
set_option maxRecDepth 100000
end Go.Proofs.Ytaminpfgkegibaa
/- The document's Space, of right objects. Conditions: lengths. -/
namespace Go.Proofs.Ytaminpfgkegibaa
set_option linter.unusedVariables false
set_option linter.unusedSimpArgs false
open Go.RowKit Go.Maps
set_option maxHeartbeats 8000000
set_option maxRecDepth 100000
end Go.Proofs.Ytaminpfgkegibaa
/- loamlaw26's same: lists alike. Conditions: lengths. -/
namespace Go.Proofs.Ytaminpfgkegibaa
set_option linter.unusedVariables false
set_option linter.unusedSimpArgs false
open Go.RowKit Go.Maps
set_option maxHeartbeats 4000000
set_option maxRecDepth 100000
theorem cs6 (Q : Exit → Act → World → Prop) (a0 : Act) (w : World) (q r j N c c2 : Nat) (x : Int) (s : ByteArray) (hq : q < w.heap.size) (hr : r < w.heap.size) (p0 : (0 : Int) ≤ (j : Int)) (p1 : (j : Int) < (N : Int)) (p2 : (N : Int) ≤ 100000) (g0 : w.cell? ⟨q, j * 2, none⟩ = some (.int .i64 x)) (g1 : w.cell? ⟨q, j * 2 + 1, none⟩ = some (.string s)) (k0 : w.cell? ⟨r, j * 2, none⟩ = some (.int .i64 x)) (k1 : w.cell? ⟨r, j * 2 + 1, none⟩ = some (.string s)) (hsz : a0.tmps.size = 41) (sl0 : a0.tmps.getD 0 undef = .slice (some ⟨q, 0, none⟩) N c) (sl1 : a0.tmps.getD 1 undef = .slice (some ⟨r, 0, none⟩) N c2) (sl5 : a0.tmps.getD 5 undef = .int .i64 (j : Int))
    (fin : ∀ (vals : Nat → Value) (w1 : World), Below w.heap.size w w1 → (IsV (.bool false)) (vals 23) w1 → Q .normal (putD vals [17, 18, 19, 20, 21, 22, 23, 24, 25, 26, 27, 28, 29, 30, 31, 32, 33, 34, 35, 36, 37, 38, 39, 40] 0 a0) w1) :
    (Code.region 6 (regIn Try.f10 6) true).wp Try.prog Q a0 w := by
  refine region_by (G := fun w w1 => Below w.heap.size w w1) [IsV (.slice (some ⟨q, 0, none⟩) N c),
    IsV (.int .i64 (j : Int)),
    IsV (.pointer (some ⟨q, j * 2, none⟩)),
    IsV (.pointer (some ⟨q, j * 2, none⟩)),
    IsV (.int .i64 x),
    IsV (.slice (some ⟨r, 0, none⟩) N c2),
    IsV (.int .i64 (j : Int)),
    IsV (.pointer (some ⟨r, j * 2, none⟩)),
    IsV (.pointer (some ⟨r, j * 2, none⟩)),
    IsV (.int .i64 x),
    IsV (.bool false),
    IsV (.bool false),
    IsV (.slice (some ⟨q, 0, none⟩) N c),
    IsV (.int .i64 (j : Int)),
    IsV (.pointer (some ⟨q, j * 2, none⟩)),
    IsV (.pointer (some ⟨q, j * 2 + 1, none⟩)),
    IsV (.string s),
    IsV (.slice (some ⟨r, 0, none⟩) N c2),
    IsV (.int .i64 (j : Int)),
    IsV (.pointer (some ⟨r, j * 2, none⟩)),
    IsV (.pointer (some ⟨r, j * 2 + 1, none⟩)),
    IsV (.string s),
    IsV (.bool false),
    IsV (.bool false)]
    [17, 18, 19, 20, 21, 22, 23, 24, 25, 26, 27, 28, 29, 30, 31, 32, 33, 34, 35, 36, 37, 38, 39, 40] (by kernel_rfl) (Gw.drew _) Gw.trans (by rw [hsz]; kernel_rfl) (by kernel_rfl) ?_ ?_ ?_
  · intro f hf
    simp only [List.mem_cons, List.not_mem_nil, or_false] at hf
    rcases hf with rfl | rfl | rfl | rfl | rfl | rfl | rfl | rfl | rfl | rfl | rfl | rfl | rfl | rfl | rfl | rfl | rfl | rfl | rfl | rfl | rfl | rfl | rfl | rfl <;> intro v a b h g <;> first | exact IsV.mono h
  · refine ⟨?_, ?_, ?_, ?_, ?_, ?_, ?_, ?_, ?_, ?_, ?_, ?_, ?_, ?_, ?_, ?_, ?_, ?_, ?_, ?_, ?_, ?_, ?_, ?_, trivial⟩
    · exact owes_mv 0 (by kernel_rfl) (by kernel_rfl) (by kernel_rfl) sl0 (fun _ => rfl)
    · exact owes_mv 5 (by kernel_rfl) (by kernel_rfl) (by kernel_rfl) sl5 (fun _ => rfl)
    · refine owes_v (Go.Op.indexAddr 24 (Go.Operand.tmp 17) (Go.Operand.tmp 18)) 0 [0, 1] (by kernel_rfl) (by kernel_rfl) (by kernel_rfl) rfl fun vals w1 ρ hG hF hρ hcst hfun => ?_
      have e17 : ρ (.tmp 17) = .slice (some ⟨q, 0, none⟩) N c := ((hρ 17).trans (slotJ [0, 1] (by rw [hsz]; decide) (by kernel_rfl))).trans (hF 0 (by decide))
      have e18 : ρ (.tmp 18) = .int .i64 (j : Int) := ((hρ 18).trans (slotJ [0, 1] (by rw [hsz]; decide) (by kernel_rfl))).trans (hF 1 (by decide))
      clear hρ hF hcst hfun sl0 sl1 sl5 fin
      exact opv_val (by go_simp <;> rfl) ⟨gw_self _, rfl⟩
    · refine owes_v (Go.Op.fieldAddr 55 (Go.Operand.tmp 19) 0) 0 [2] (by kernel_rfl) (by kernel_rfl) (by kernel_rfl) rfl fun vals w1 ρ hG hF hρ hcst hfun => ?_
      have e19 : ρ (.tmp 19) = .pointer (some ⟨q, j * 2, none⟩) := ((hρ 19).trans (slotJ [2] (by rw [hsz]; decide) (by kernel_rfl))).trans (hF 2 (by decide))
      clear hρ hF hcst hfun sl0 sl1 sl5 fin
      exact opv_val (by go_simp <;> rfl) ⟨gw_self _, rfl⟩
    · refine owes_v (Go.Op.load 3 (Go.Operand.tmp 20)) 3 [3] (by kernel_rfl) (by kernel_rfl) (by kernel_rfl) rfl fun vals w1 ρ hG hF hρ hcst hfun => ?_
      have e20 : ρ (.tmp 20) = .pointer (some ⟨q, j * 2, none⟩) := ((hρ 20).trans (slotJ [3] (by rw [hsz]; decide) (by kernel_rfl))).trans (hF 3 (by decide))
      have k := (hG.cell (p := ⟨q, j * 2, none⟩) hq).trans g0
      clear hρ hF hcst hfun sl0 sl1 sl5 fin
      exact opv_val (by go_simp <;> rfl) ⟨gw_self _, rfl⟩
    · exact owes_mv 1 (by kernel_rfl) (by kernel_rfl) (by kernel_rfl) sl1 (fun _ => rfl)
    · exact owes_mv 5 (by kernel_rfl) (by kernel_rfl) (by kernel_rfl) sl5 (fun _ => rfl)
    · refine owes_v (Go.Op.indexAddr 34 (Go.Operand.tmp 22) (Go.Operand.tmp 23)) 0 [5, 6] (by kernel_rfl) (by kernel_rfl) (by kernel_rfl) rfl fun vals w1 ρ hG hF hρ hcst hfun => ?_
      have e22 : ρ (.tmp 22) = .slice (some ⟨r, 0, none⟩) N c2 := ((hρ 22).trans (slotJ [5, 6] (by rw [hsz]; decide) (by kernel_rfl))).trans (hF 5 (by decide))
      have e23 : ρ (.tmp 23) = .int .i64 (j : Int) := ((hρ 23).trans (slotJ [5, 6] (by rw [hsz]; decide) (by kernel_rfl))).trans (hF 6 (by decide))
      clear hρ hF hcst hfun sl0 sl1 sl5 fin
      exact opv_val (by go_simp <;> rfl) ⟨gw_self _, rfl⟩
    · refine owes_v (Go.Op.fieldAddr 76 (Go.Operand.tmp 24) 0) 0 [7] (by kernel_rfl) (by kernel_rfl) (by kernel_rfl) rfl fun vals w1 ρ hG hF hρ hcst hfun => ?_
      have e24 : ρ (.tmp 24) = .pointer (some ⟨r, j * 2, none⟩) := ((hρ 24).trans (slotJ [7] (by rw [hsz]; decide) (by kernel_rfl))).trans (hF 7 (by decide))
      clear hρ hF hcst hfun sl0 sl1 sl5 fin
      exact opv_val (by go_simp <;> rfl) ⟨gw_self _, rfl⟩
    · refine owes_v (Go.Op.load 3 (Go.Operand.tmp 25)) 3 [8] (by kernel_rfl) (by kernel_rfl) (by kernel_rfl) rfl fun vals w1 ρ hG hF hρ hcst hfun => ?_
      have e25 : ρ (.tmp 25) = .pointer (some ⟨r, j * 2, none⟩) := ((hρ 25).trans (slotJ [8] (by rw [hsz]; decide) (by kernel_rfl))).trans (hF 8 (by decide))
      have k := (hG.cell (p := ⟨r, j * 2, none⟩) hr).trans k0
      clear hρ hF hcst hfun sl0 sl1 sl5 fin
      exact opv_val (by go_simp <;> rfl) ⟨gw_self _, rfl⟩
    · refine owes_v (Go.Op.binOp Go.BinOp.neq 3 (Go.Operand.tmp 21) (Go.Operand.tmp 26) 3) 4 [4, 9] (by kernel_rfl) (by kernel_rfl) (by kernel_rfl) rfl fun vals w1 ρ hG hF hρ hcst hfun => ?_
      have e21 : ρ (.tmp 21) = .int .i64 x := ((hρ 21).trans (slotJ [4, 9] (by rw [hsz]; decide) (by kernel_rfl))).trans (hF 4 (by decide))
      have e26 : ρ (.tmp 26) = .int .i64 x := ((hρ 26).trans (slotJ [4, 9] (by rw [hsz]; decide) (by kernel_rfl))).trans (hF 9 (by decide))
      clear hρ hF hcst hfun sl0 sl1 sl5 fin
      exact opv_val (by go_simp <;> rfl) ⟨gw_self _, rfl⟩
    · exact owes_mvj 10 27 (by kernel_rfl) (by kernel_rfl) (by kernel_rfl) (by kernel_rfl) (by rw [hsz]; decide) (fun v w h => h)
    · refine owes_vt 11 false (Go.Op.move (Go.Operand.tmp 0)) 24 [] (by kernel_rfl) (by kernel_rfl) (by kernel_rfl) (fun _ _ h => h) (by rw [hsz]; kernel_rfl) (by kernel_rfl) rfl fun vals w1 ρ hG hF hρ hcst hfun => ?_
      have e0 : ρ (.tmp 0) = .slice (some ⟨q, 0, none⟩) N c := ((hρ 0).trans (slotO [] (by kernel_rfl))).trans sl0
      clear hρ hF hcst hfun sl0 sl1 sl5 fin
      exact opv_val (by go_simp <;> rfl) ⟨gw_self _, rfl⟩
    · refine owes_vt 11 false (Go.Op.move (Go.Operand.tmp 5)) 3 [] (by kernel_rfl) (by kernel_rfl) (by kernel_rfl) (fun _ _ h => h) (by rw [hsz]; kernel_rfl) (by kernel_rfl) rfl fun vals w1 ρ hG hF hρ hcst hfun => ?_
      have e5 : ρ (.tmp 5) = .int .i64 (j : Int) := ((hρ 5).trans (slotO [] (by kernel_rfl))).trans sl5
      clear hρ hF hcst hfun sl0 sl1 sl5 fin
      exact opv_val (by go_simp <;> rfl) ⟨gw_self _, rfl⟩
    · refine owes_vt 11 false (Go.Op.indexAddr 24 (Go.Operand.tmp 29) (Go.Operand.tmp 30)) 0 [12, 13] (by kernel_rfl) (by kernel_rfl) (by kernel_rfl) (fun _ _ h => h) (by rw [hsz]; kernel_rfl) (by kernel_rfl) rfl fun vals w1 ρ hG hF hρ hcst hfun => ?_
      have e29 : ρ (.tmp 29) = .slice (some ⟨q, 0, none⟩) N c := ((hρ 29).trans (slotJ [12, 13] (by rw [hsz]; decide) (by kernel_rfl))).trans (hF 12 (by decide))
      have e30 : ρ (.tmp 30) = .int .i64 (j : Int) := ((hρ 30).trans (slotJ [12, 13] (by rw [hsz]; decide) (by kernel_rfl))).trans (hF 13 (by decide))
      clear hρ hF hcst hfun sl0 sl1 sl5 fin
      exact opv_val (by go_simp <;> rfl) ⟨gw_self _, rfl⟩
    · refine owes_vt 11 false (Go.Op.fieldAddr 55 (Go.Operand.tmp 31) 1) 0 [14] (by kernel_rfl) (by kernel_rfl) (by kernel_rfl) (fun _ _ h => h) (by rw [hsz]; kernel_rfl) (by kernel_rfl) rfl fun vals w1 ρ hG hF hρ hcst hfun => ?_
      have e31 : ρ (.tmp 31) = .pointer (some ⟨q, j * 2, none⟩) := ((hρ 31).trans (slotJ [14] (by rw [hsz]; decide) (by kernel_rfl))).trans (hF 14 (by decide))
      clear hρ hF hcst hfun sl0 sl1 sl5 fin
      exact opv_val (by go_simp <;> rfl) ⟨gw_self _, rfl⟩
    · refine owes_vt 11 false (Go.Op.load 9 (Go.Operand.tmp 32)) 9 [15] (by kernel_rfl) (by kernel_rfl) (by kernel_rfl) (fun _ _ h => h) (by rw [hsz]; kernel_rfl) (by kernel_rfl) rfl fun vals w1 ρ hG hF hρ hcst hfun => ?_
      have e32 : ρ (.tmp 32) = .pointer (some ⟨q, j * 2 + 1, none⟩) := ((hρ 32).trans (slotJ [15] (by rw [hsz]; decide) (by kernel_rfl))).trans (hF 15 (by decide))
      have k := (hG.cell (p := ⟨q, j * 2 + 1, none⟩) hq).trans g1
      clear hρ hF hcst hfun sl0 sl1 sl5 fin
      exact opv_val (by go_simp <;> rfl) ⟨gw_self _, rfl⟩
    · refine owes_vt 11 false (Go.Op.move (Go.Operand.tmp 1)) 34 [] (by kernel_rfl) (by kernel_rfl) (by kernel_rfl) (fun _ _ h => h) (by rw [hsz]; kernel_rfl) (by kernel_rfl) rfl fun vals w1 ρ hG hF hρ hcst hfun => ?_
      have e1 : ρ (.tmp 1) = .slice (some ⟨r, 0, none⟩) N c2 := ((hρ 1).trans (slotO [] (by kernel_rfl))).trans sl1
      clear hρ hF hcst hfun sl0 sl1 sl5 fin
      exact opv_val (by go_simp <;> rfl) ⟨gw_self _, rfl⟩
    · refine owes_vt 11 false (Go.Op.move (Go.Operand.tmp 5)) 3 [] (by kernel_rfl) (by kernel_rfl) (by kernel_rfl) (fun _ _ h => h) (by rw [hsz]; kernel_rfl) (by kernel_rfl) rfl fun vals w1 ρ hG hF hρ hcst hfun => ?_
      have e5 : ρ (.tmp 5) = .int .i64 (j : Int) := ((hρ 5).trans (slotO [] (by kernel_rfl))).trans sl5
      clear hρ hF hcst hfun sl0 sl1 sl5 fin
      exact opv_val (by go_simp <;> rfl) ⟨gw_self _, rfl⟩
    · refine owes_vt 11 false (Go.Op.indexAddr 34 (Go.Operand.tmp 34) (Go.Operand.tmp 35)) 0 [17, 18] (by kernel_rfl) (by kernel_rfl) (by kernel_rfl) (fun _ _ h => h) (by rw [hsz]; kernel_rfl) (by kernel_rfl) rfl fun vals w1 ρ hG hF hρ hcst hfun => ?_
      have e34 : ρ (.tmp 34) = .slice (some ⟨r, 0, none⟩) N c2 := ((hρ 34).trans (slotJ [17, 18] (by rw [hsz]; decide) (by kernel_rfl))).trans (hF 17 (by decide))
      have e35 : ρ (.tmp 35) = .int .i64 (j : Int) := ((hρ 35).trans (slotJ [17, 18] (by rw [hsz]; decide) (by kernel_rfl))).trans (hF 18 (by decide))
      clear hρ hF hcst hfun sl0 sl1 sl5 fin
      exact opv_val (by go_simp <;> rfl) ⟨gw_self _, rfl⟩
    · refine owes_vt 11 false (Go.Op.fieldAddr 76 (Go.Operand.tmp 36) 1) 0 [19] (by kernel_rfl) (by kernel_rfl) (by kernel_rfl) (fun _ _ h => h) (by rw [hsz]; kernel_rfl) (by kernel_rfl) rfl fun vals w1 ρ hG hF hρ hcst hfun => ?_
      have e36 : ρ (.tmp 36) = .pointer (some ⟨r, j * 2, none⟩) := ((hρ 36).trans (slotJ [19] (by rw [hsz]; decide) (by kernel_rfl))).trans (hF 19 (by decide))
      clear hρ hF hcst hfun sl0 sl1 sl5 fin
      exact opv_val (by go_simp <;> rfl) ⟨gw_self _, rfl⟩
    · refine owes_vt 11 false (Go.Op.load 9 (Go.Operand.tmp 37)) 9 [20] (by kernel_rfl) (by kernel_rfl) (by kernel_rfl) (fun _ _ h => h) (by rw [hsz]; kernel_rfl) (by kernel_rfl) rfl fun vals w1 ρ hG hF hρ hcst hfun => ?_
      have e37 : ρ (.tmp 37) = .pointer (some ⟨r, j * 2 + 1, none⟩) := ((hρ 37).trans (slotJ [20] (by rw [hsz]; decide) (by kernel_rfl))).trans (hF 20 (by decide))
      have k := (hG.cell (p := ⟨r, j * 2 + 1, none⟩) hr).trans k1
      clear hρ hF hcst hfun sl0 sl1 sl5 fin
      exact opv_val (by go_simp <;> rfl) ⟨gw_self _, rfl⟩
    · refine owes_vt 11 false (Go.Op.binOp Go.BinOp.neq 9 (Go.Operand.tmp 33) (Go.Operand.tmp 38) 9) 4 [16, 21] (by kernel_rfl) (by kernel_rfl) (by kernel_rfl) (fun _ _ h => h) (by rw [hsz]; kernel_rfl) (by kernel_rfl) rfl fun vals w1 ρ hG hF hρ hcst hfun => ?_
      have e33 : ρ (.tmp 33) = .string s := ((hρ 33).trans (slotJ [16, 21] (by rw [hsz]; decide) (by kernel_rfl))).trans (hF 16 (by decide))
      have e38 : ρ (.tmp 38) = .string s := ((hρ 38).trans (slotJ [16, 21] (by rw [hsz]; decide) (by kernel_rfl))).trans (hF 21 (by decide))
      clear hρ hF hcst hfun sl0 sl1 sl5 fin
      exact opv_val (by go_simp <;> rfl) ⟨gw_self _, rfl⟩
    · refine owes_v (Go.Op.pick (Go.Operand.tmp 28) (Go.Operand.const (Go.Value.bool true)) (Go.Operand.tmp 39)) 4 [11, 22] (by kernel_rfl) (by kernel_rfl) (by kernel_rfl) rfl fun vals w1 ρ hG hF hρ hcst hfun => ?_
      have e28 : ρ (.tmp 28) = .bool false := ((hρ 28).trans (slotJ [11, 22] (by rw [hsz]; decide) (by kernel_rfl))).trans (hF 11 (by decide))
      have e39 : ρ (.tmp 39) = .bool false := ((hρ 39).trans (slotJ [11, 22] (by rw [hsz]; decide) (by kernel_rfl))).trans (hF 22 (by decide))
      clear hρ hF hfun sl0 sl1 sl5 fin
      exact opv_val (by go_simp <;> rfl) ⟨gw_self _, rfl⟩
  · intro vals w1 hG hF
    exact fin vals w1 hG (hF 23 (by decide +kernel))
theorem same_c (w : World) (B1 B2 : Nat) (v v2 : Value) (l : List (Nat × ByteArray)) (h : FR w B1 v l) (h2 : rFR w B2 v2 l) (hl : l.length ≤ 100000) : Calls Try.prog 10 #[v, v2] w (RetP (.bool true) w) := by
  obtain ⟨A, c, rfl, hc, hc2⟩ := h.slice_
  obtain ⟨A2, c2, rfl, hd, hd2⟩ := h2.slice_
  obtain ⟨N, hN⟩ : ∃ N, N = l.length := ⟨_, rfl⟩
  have HX := Lib.hid (And.intro h (And.intro h2 hN))
  rw [← hN] at hl ⊢
  have NI : (N : Int) ≤ 100000 := by omega
  clear h h2 hN hc hc2 hd hd2
  go_enter Try.func10, Try.ntmps10
  go_wp2_with fail
  go_loopw [5] (fun x W => ∃ k : Nat, k ≤ N ∧ x = .int .i64 k ∧ Below w.heap.size w W) (fun x _ => N - (Go.RowKit.intOf x).toNat)
  case atStart => exact ⟨0, by omega, rfl, Below.refl _ _⟩
  case round =>
    obtain ⟨k, hk, rfl, hB⟩ := hrel
    have HB := Lib.hid hB
    by_cases hlt : k < N
    · have p1 : (0 : Int) ≤ (k : Int) := by omega
      have p2 : (k : Int) < (N : Int) := by omega
      have hkl : k < l.length := by rw [← HX.out.2.2]; exact hlt
      have e1 := HX.out.1.below hB
      have e2 := HX.out.2.1.below hB
      obtain ⟨q, rfl, hq1, hq2, g0, g1⟩ := e1.at_ k hkl
      obtain ⟨r, rfl, hr1, hr2, k0, k1⟩ := e2.at_ k hkl
      obtain ⟨x, hx⟩ : ∃ x, x = (l[k].1 : Int) := ⟨_, rfl⟩
      obtain ⟨s, hs⟩ : ∃ x, x = l[k].2 := ⟨_, rfl⟩
      rw [← hx] at g0 k0
      rw [← hs] at g1 k1
      have HS := Lib.hid (fun Q a0 => cs6 Q a0 wr q r k N c c2 x s hq2 hr2 p1 p2 NI g0 g1 k0 k1)
      clear hx hs g0 g1 k0 k1 e1 e2 hq1 hr1 hq2 hr2 hkl
      go_wp2_with fail
      refine HS.out _ _ rfl rfl rfl rfl ?_
      intro vals w4 hG h40
      unfold IsV at h40
      simp only [putD, Act.put, List.setIfInBounds_toArray, List.set_cons_zero, List.set_cons_succ, h40]
      have HB4 := Lib.hid (hB.trans (hG.mono hB.size))
      clear h40 hG HS HB hB
      go_wp2_with fail
      go_roundw
      case rel => exact ⟨k + 1, by omega, by go_num, HB4.out⟩
      case measure => simp [Go.RowKit.intOf]; omega
    · have p3 : ¬ (k : Int) < (N : Int) := by omega
      clear hB
      go_wp2_with fail
      go_ret
      exact ⟨rfl, HB.out⟩
end Go.Proofs.Ytaminpfgkegibaa
/- check.Image at three words with no Roots. Conditions: the first two words. -/
namespace Go.Proofs.Ytaminpfgkegibaa
set_option linter.unusedVariables false
set_option linter.unusedSimpArgs false
open Go.RowKit Go.Maps
set_option maxHeartbeats 4000000
set_option maxRecDepth 100000
theorem ans_cast {P : Program} {f : FuncId} {args args' : Array Value} {w : World} {v v' : Value} (h : Ans P f args w v) (e1 : args = args') (e2 : v = v') : Ans P f args' w v' := e1 ▸ e2 ▸ h
theorem fk0 (w : World) : Ans Try.prog 45 #[.int .u64 196608, .int .i64 0, .int .i64 16] w (.int .u64 0) := ans_cast (field_c 196608 0 16 w) (by kernel_rfl) (by kernel_rfl)
theorem fk1 (w : World) : Ans Try.prog 45 #[.int .u64 196608, .int .i64 16, .int .i64 32] w (.int .u64 3) := ans_cast (field_c 196608 16 32 w) (by kernel_rfl) (by kernel_rfl)
theorem fk2 (w : World) : Ans Try.prog 45 #[.int .u64 196608, .int .i64 48, .int .i64 16] w (.int .u64 0) := ans_cast (field_c 196608 48 16 w) (by kernel_rfl) (by kernel_rfl)
theorem ckbase_c (w : World) : Calls Try.prog 23 #[.int .i64 0] w (RetP (.int .i64 2) w) := by
  go_enter Try.func23, Try.ntmps23
  go_wp2_with fail
  go_ret
  exact ⟨rfl, Below.refl _ _⟩
theorem sz3 (Q : Exit → Act → World → Prop) (a0 : Act) (w : World) (q c : Nat) (hq : q < w.heap.size) (g0 : w.cell? ⟨q, 1, none⟩ = some (.int .u64 196608)) (hsz : a0.tmps.size = 50) (sl0 : a0.tmps.getD 0 undef = .slice (some ⟨q, 0, none⟩) 3 c)
    (fin : ∀ (vals : Nat → Value) (w1 : World), Below w.heap.size w w1 → (IsV (.int .u64 0)) (vals 12) w1 → (IsV (.int .u64 3)) (vals 13) w1 → (IsV (.int .u64 0)) (vals 14) w1 → Q .normal (putD vals [15, 16, 17, 18, 19, 20, 21, 22, 23, 24, 25, 26, 4, 5, 6] 0 a0) w1) :
    (Code.region 3 (regIn Try.f20 3) true).wp Try.prog Q a0 w := by
  refine region_by (G := fun w w1 => Below w.heap.size w w1) [IsV (.slice (some ⟨q, 0, none⟩) 3 c),
    IsV (.pointer (some ⟨q, 1, none⟩)),
    IsV (.int .u64 196608),
    IsV (.int .u64 0),
    IsV (.slice (some ⟨q, 0, none⟩) 3 c),
    IsV (.pointer (some ⟨q, 1, none⟩)),
    IsV (.int .u64 196608),
    IsV (.int .u64 3),
    IsV (.slice (some ⟨q, 0, none⟩) 3 c),
    IsV (.pointer (some ⟨q, 1, none⟩)),
    IsV (.int .u64 196608),
    IsV (.int .u64 0),
    IsV (.int .u64 0),
    IsV (.int .u64 3),
    IsV (.int .u64 0)]
    [15, 16, 17, 18, 19, 20, 21, 22, 23, 24, 25, 26, 4, 5, 6] (by kernel_rfl) (Gw.drew _) Gw.trans (by rw [hsz]; kernel_rfl) (by kernel_rfl) ?_ ?_ ?_
  · intro f hf
    simp only [List.mem_cons, List.not_mem_nil, or_false] at hf
    rcases hf with rfl | rfl | rfl | rfl | rfl | rfl | rfl | rfl | rfl | rfl | rfl | rfl | rfl | rfl | rfl <;> intro v a b h g <;> first | exact IsV.mono h
  · refine ⟨?_, ?_, ?_, ?_, ?_, ?_, ?_, ?_, ?_, ?_, ?_, ?_, ?_, ?_, ?_, trivial⟩
    · exact owes_mv 0 (by kernel_rfl) (by kernel_rfl) (by kernel_rfl) sl0 (fun _ => rfl)
    · refine owes_v (Go.Op.indexAddr 22 (Go.Operand.tmp 15) (Go.Operand.const (Go.Value.int Go.IntKind.i64 1))) 0 [0] (by kernel_rfl) (by kernel_rfl) (by kernel_rfl) rfl fun vals w1 ρ hG hF hρ hcst hfun => ?_
      have e15 : ρ (.tmp 15) = .slice (some ⟨q, 0, none⟩) 3 c := ((hρ 15).trans (slotJ [0] (by rw [hsz]; decide) (by kernel_rfl))).trans (hF 0 (by decide))
      clear hρ hF hfun sl0 fin
      exact opv_val (by go_simp <;> rfl) ⟨gw_self _, rfl⟩
    · refine owes_v (Go.Op.load 57 (Go.Operand.tmp 16)) 57 [1] (by kernel_rfl) (by kernel_rfl) (by kernel_rfl) rfl fun vals w1 ρ hG hF hρ hcst hfun => ?_
      have e16 : ρ (.tmp 16) = .pointer (some ⟨q, 1, none⟩) := ((hρ 16).trans (slotJ [1] (by rw [hsz]; decide) (by kernel_rfl))).trans (hF 1 (by decide))
      have k := (hG.cell (p := ⟨q, 1, none⟩) hq).trans g0
      clear hρ hF hcst hfun sl0 fin
      exact opv_val (by go_simp <;> rfl) ⟨gw_self _, rfl⟩
    · refine owes_v (Go.Op.call { callee := Go.Callee.value (Go.Operand.func 45), args := #[Go.Operand.tmp 17, Go.Operand.const (Go.Value.int Go.IntKind.i64 0), Go.Operand.const (Go.Value.int Go.IntKind.i64 16)], argTypes := #[57, 3, 3] }) 57 [2] (by kernel_rfl) (by kernel_rfl) (by kernel_rfl) rfl fun vals w1 ρ hG hF hρ hcst hfun => ?_
      have e17 : ρ (.tmp 17) = .int .u64 196608 := ((hρ 17).trans (slotJ [2] (by rw [hsz]; decide) (by kernel_rfl))).trans (hF 2 (by decide))
      clear hρ hF sl0 fin
      exact opv_enter (by go_simp <;> rfl) (of_ansk (fk0 w1))
    · exact owes_mv 0 (by kernel_rfl) (by kernel_rfl) (by kernel_rfl) sl0 (fun _ => rfl)
    · refine owes_v (Go.Op.indexAddr 22 (Go.Operand.tmp 19) (Go.Operand.const (Go.Value.int Go.IntKind.i64 1))) 0 [4] (by kernel_rfl) (by kernel_rfl) (by kernel_rfl) rfl fun vals w1 ρ hG hF hρ hcst hfun => ?_
      have e19 : ρ (.tmp 19) = .slice (some ⟨q, 0, none⟩) 3 c := ((hρ 19).trans (slotJ [4] (by rw [hsz]; decide) (by kernel_rfl))).trans (hF 4 (by decide))
      clear hρ hF hfun sl0 fin
      exact opv_val (by go_simp <;> rfl) ⟨gw_self _, rfl⟩
    · refine owes_v (Go.Op.load 57 (Go.Operand.tmp 20)) 57 [5] (by kernel_rfl) (by kernel_rfl) (by kernel_rfl) rfl fun vals w1 ρ hG hF hρ hcst hfun => ?_
      have e20 : ρ (.tmp 20) = .pointer (some ⟨q, 1, none⟩) := ((hρ 20).trans (slotJ [5] (by rw [hsz]; decide) (by kernel_rfl))).trans (hF 5 (by decide))
      have k := (hG.cell (p := ⟨q, 1, none⟩) hq).trans g0
      clear hρ hF hcst hfun sl0 fin
      exact opv_val (by go_simp <;> rfl) ⟨gw_self _, rfl⟩
    · refine owes_v (Go.Op.call { callee := Go.Callee.value (Go.Operand.func 45), args := #[Go.Operand.tmp 21, Go.Operand.const (Go.Value.int Go.IntKind.i64 16), Go.Operand.const (Go.Value.int Go.IntKind.i64 32)], argTypes := #[57, 3, 3] }) 57 [6] (by kernel_rfl) (by kernel_rfl) (by kernel_rfl) rfl fun vals w1 ρ hG hF hρ hcst hfun => ?_
      have e21 : ρ (.tmp 21) = .int .u64 196608 := ((hρ 21).trans (slotJ [6] (by rw [hsz]; decide) (by kernel_rfl))).trans (hF 6 (by decide))
      clear hρ hF sl0 fin
      exact opv_enter (by go_simp <;> rfl) (of_ansk (fk1 w1))
    · exact owes_mv 0 (by kernel_rfl) (by kernel_rfl) (by kernel_rfl) sl0 (fun _ => rfl)
    · refine owes_v (Go.Op.indexAddr 22 (Go.Operand.tmp 23) (Go.Operand.const (Go.Value.int Go.IntKind.i64 1))) 0 [8] (by kernel_rfl) (by kernel_rfl) (by kernel_rfl) rfl fun vals w1 ρ hG hF hρ hcst hfun => ?_
      have e23 : ρ (.tmp 23) = .slice (some ⟨q, 0, none⟩) 3 c := ((hρ 23).trans (slotJ [8] (by rw [hsz]; decide) (by kernel_rfl))).trans (hF 8 (by decide))
      clear hρ hF hfun sl0 fin
      exact opv_val (by go_simp <;> rfl) ⟨gw_self _, rfl⟩
    · refine owes_v (Go.Op.load 57 (Go.Operand.tmp 24)) 57 [9] (by kernel_rfl) (by kernel_rfl) (by kernel_rfl) rfl fun vals w1 ρ hG hF hρ hcst hfun => ?_
      have e24 : ρ (.tmp 24) = .pointer (some ⟨q, 1, none⟩) := ((hρ 24).trans (slotJ [9] (by rw [hsz]; decide) (by kernel_rfl))).trans (hF 9 (by decide))
      have k := (hG.cell (p := ⟨q, 1, none⟩) hq).trans g0
      clear hρ hF hcst hfun sl0 fin
      exact opv_val (by go_simp <;> rfl) ⟨gw_self _, rfl⟩
    · refine owes_v (Go.Op.call { callee := Go.Callee.value (Go.Operand.func 45), args := #[Go.Operand.tmp 25, Go.Operand.const (Go.Value.int Go.IntKind.i64 48), Go.Operand.const (Go.Value.int Go.IntKind.i64 16)], argTypes := #[57, 3, 3] }) 57 [10] (by kernel_rfl) (by kernel_rfl) (by kernel_rfl) rfl fun vals w1 ρ hG hF hρ hcst hfun => ?_
      have e25 : ρ (.tmp 25) = .int .u64 196608 := ((hρ 25).trans (slotJ [10] (by rw [hsz]; decide) (by kernel_rfl))).trans (hF 10 (by decide))
      clear hρ hF sl0 fin
      exact opv_enter (by go_simp <;> rfl) (of_ansk (fk2 w1))
    · exact owes_mvj 3 18 (by kernel_rfl) (by kernel_rfl) (by kernel_rfl) (by kernel_rfl) (by rw [hsz]; decide) (fun v w h => h)
    · exact owes_mvj 7 22 (by kernel_rfl) (by kernel_rfl) (by kernel_rfl) (by kernel_rfl) (by rw [hsz]; decide) (fun v w h => h)
    · exact owes_mvj 11 26 (by kernel_rfl) (by kernel_rfl) (by kernel_rfl) (by kernel_rfl) (by rw [hsz]; decide) (fun v w h => h)
  · intro vals w1 hG hF
    exact fin vals w1 hG (hF 12 (by decide +kernel)) (hF 13 (by decide +kernel)) (hF 14 (by decide +kernel))
theorem sized_c (w : World) (q c : Nat) (hq : q < w.heap.size) (g0 : w.cell? ⟨q, 1, none⟩ = some (.int .u64 196608)) : Calls Try.prog 20 #[.slice (some ⟨q, 0, none⟩) 3 c] w (RetP (.tuple #[.int .i64 0, .bool true]) w) := by
  have HB := Lib.hid ckbase_c
  go_enter Try.func20, Try.ntmps20
  go_wp2_with fail
  refine sz3 _ _ _ q c hq g0 rfl ?_ ?_
  · rfl
  intro vals w1 hG h4 h5 h6
  unfold IsV at h4 h5 h6
  simp only [putD, Act.put, List.setIfInBounds_toArray, List.set_cons_zero, List.set_cons_succ, h4, h5, h6]
  have H1 := Lib.hid hG
  clear hG h4 h5 h6 g0 hq
  go_wp2_with fail
  refine Calls.mono (HB.out w1) ?_
  rintro r w2 ⟨rfl, b2⟩
  have H2 := Lib.hid b2
  clear b2
  go_wp2_with fail
  go_ret2
  exact ⟨rfl, H1.out.trans (H2.out.mono H1.out.size)⟩
theorem sized0_c (w : World) : Calls Try.prog 20 #[.slice none 0 0] w (RetP (.tuple #[.int .i64 0, .bool false]) w) := by
  go_enter Try.func20, Try.ntmps20
  go_wp2_with fail
  go_ret2
  exact ⟨rfl, Below.refl _ _⟩
theorem ckroots_c (w : World) (Xb : Nat) : Calls Try.prog 25 #[.pointer (some ⟨Xb, 0, none⟩), .int .i64 0] w (RetP (.tuple #[]) w) := by
  go_enter Try.func25, Try.ntmps25
  go_wp2_with fail
  go_loopw [13] (fun x W => x = .int .i64 0 ∧ W = w) (fun _ _ => 0)
  case atStart => exact ⟨rfl, rfl⟩
  case round =>
    obtain ⟨rfl, rfl⟩ := hrel
    go_wp2_with fail
    go_end0
    exact ⟨rfl, Below.refl _ _⟩
theorem image3_c (w : World) (q c : Nat) (x : BitVec 64) (hr : Rd u64v w w.heap.size (some ⟨q, 0, none⟩) [1296125772#64, 196608#64, x]) (F : List Nat × Option Nat) (hF : foundN [1296125772#64, 196608#64, x] 3 4 2 = F) (hq : ∀ y, F.2 = some y → okU ([1296125772#64, 196608#64, x].getD y 0#64) = false) (hl : (badF F.2 ++ allE [1296125772#64, 196608#64, x] F.1 F.1).length ≤ 5000) :
    Calls Try.prog 8 #[.slice (some ⟨q, 0, none⟩) 3 c] w (fun r w' => ∃ lv, r = .returned lv ∧ FR w' w.heap.size lv (badF F.2 ++ allE [1296125772#64, 196608#64, x] F.1 F.1) ∧ Below w.heap.size w w') := by
  obtain ⟨ws, hws⟩ : ∃ ws, ws = [1296125772#64, 196608#64, x] := ⟨_, rfl⟩
  have hn : ws.length = 3 := by rw [hws]; rfl
  obtain ⟨ad, had, hql, g0⟩ := hr 0 (Nat.zero_lt_succ _)
  injection had with had
  subst had
  obtain ⟨ad, had, _, g1⟩ := hr 1 (Nat.succ_lt_succ (Nat.zero_lt_succ _))
  injection had with had
  subst had
  rw [add_off] at g0 g1
  replace g0 : w.cell? ⟨q, 0, none⟩ = some (.int .u64 1296125772) := g0
  replace g1 : w.cell? ⟨q, 1, none⟩ = some (.int .u64 196608) := g1
  have hql : q < w.heap.size := hql
  rw [← hws] at hr hF hq hl ⊢
  have HSz := Lib.hid (fun W (h : Below w.heap.size w W) => sized_c W q c (Nat.lt_of_lt_of_le hql h.size) ((h.cell (p := ⟨q, 1, none⟩) hql).trans g1))
  have HOf := Lib.hid (fun W (h : Below w.heap.size w W) => of_in W (some ⟨q, 0, none⟩) c ws ((hr.below h).more h.size) (by omega))
  have HX := Lib.hid (And.intro hF (And.intro hq (And.intro hl hn)))
  have HB := Lib.hid ckbase_c
  have HR := Lib.hid ckroots_c
  rw [hn] at HOf
  clear hr hF hq hl hn hws g1
  go_enter Try.func8, Try.ntmps8
  go_wp2_with fail
  refine Calls.mono (HSz.out w (Below.refl _ _)) ?_
  rintro r w1 ⟨rfl, b1⟩
  have H1 := Lib.hid b1
  clear b1 g0
  go_wp2_with fail
  refine Calls.mono (HOf.out w1 H1.out) ?_
  rintro r w2 ⟨g, v, rfl, hm, b2⟩
  have H2 := Lib.hid (And.intro hm (And.intro (H1.out.trans (b2.mono H1.out.size)) b2.size))
  clear hm b2
  go_wp2_with fail
  refine Calls.mono (HB.out w2) ?_
  rintro r w3 ⟨rfl, b3⟩
  have HB3 := Lib.hid b3
  clear b3
  go_wp2_with fail
  have b3 := HB3.out
  obtain ⟨s, hs⟩ : ∃ s, s = w3.heap.size := ⟨_, rfl⟩
  obtain ⟨w4, hw4⟩ : ∃ w4, w4 = w3.alloc (.cells #[.pointer (some ⟨g, 0, none⟩), .int .i64 2, .int .i64 3, .int .i64 3] 67) := ⟨_, rfl⟩
  have hbk : Bk w4 s 67 #[.pointer (some ⟨g, 0, none⟩), .int .i64 2, .int .i64 3, .int .i64 3] := by rw [hw4, hs]; exact Bk.new w3 _ _
  have b34 : Below w3.heap.size w3 w4 := by rw [hw4]; exact Gw.alloc w3 _
  have hmm := H2.out.1.below b3
  have hsp : SpAt w4 w1.heap.size s g v ws 2 3 3 := by
    have hlt := hmm.blk.lt
    exact ⟨hmm.below b34, hbk, by omega, fun h => by have := (hmm.row.lt _ h).2; omega, by have := H2.out.2.2; have := b3.size; omega, by decide, by decide, by rw [HX.out.2.2.2]; decide⟩
  have b04 : Below w.heap.size w w4 := (H2.out.2.1.trans (b3.mono H2.out.2.1.size)).trans (b34.mono (by have := H2.out.2.1.size; have := b3.size; omega))
  have HLk := Lib.hid (look_c w4 hsp (by rw [HX.out.2.2.2]; decide) F HX.out.1 HX.out.2.1)
  have H4 := Lib.hid (And.intro hsp b04)
  rw [← hw4, ← hs]
  clear b3 H2 H1 hw4 hbk b34 hmm hsp b04 hs
  refine Calls.mono HLk.out ?_
  rintro r w5 ⟨Xb, mb, rv, lv, rfl, h5, b5⟩
  have hpg : ∀ a ∈ F.1, 2 ≤ a ∧ a < 3 ∧ goodX (ws.getD a 0#64) (3 - a) = true := fun a ha => found_good ws 3 4 2 a (by rw [HX.out.1]; exact ha)
  have hpl : F.1.length ≤ 8192 := by
    have h2 := found_len ws 3 4 2
    rw [HX.out.1] at h2
    omega
  have HO := Lib.hid (lkobj_c w5 (wB := w4) (Bs := w1.heap.size) (s := s) (g := g) (v := v) (b := 2) (t := 3) (e := 3) ⟨rfl, H4.out.1⟩ b5 h5 HX.out.2.2.1 (by rw [HX.out.2.2.2]; decide) (by rw [HX.out.2.2.2]; decide) hpg hpl)
  clear h5 b5 hpg hpl
  go_wp2_with fail
  refine Calls.mono HO.out ?_
  rintro r w6 ⟨rfl, lv2, h6, _, _, b6⟩
  have H6 := Lib.hid (And.intro h6 b6)
  clear h6 b6
  go_wp2_with fail
  refine Calls.mono (HR.out w6 Xb) ?_
  rintro r w7 ⟨rfl, b7⟩
  have h7 := H6.out.1.below b7
  have b47 := H6.out.2.trans (b7.mono H6.out.2.size)
  obtain ⟨c0, c1, c2, c3⟩ := h7.four
  have hXl := h7.blk.lt
  obtain ⟨A, cc, e0, _⟩ := h7.fr.slice_
  obtain ⟨N, hN⟩ : ∃ N, N = (badF F.2 ++ allE ws F.1 F.1).length := ⟨_, rfl⟩
  rw [← hN] at e0
  subst e0
  have H7 := Lib.hid (And.intro h7.fr (And.intro (H4.out.2.trans (b47.mono H4.out.2.size)) (And.intro hN (show 0 + (badF F.2 ++ allE ws F.1 F.1).length ≤ 100000 by have := HX.out.2.2.1; omega))))
  clear h7 b7 b47 hN
  go_wp2_with (at_builtin; refine wp_appF rfl (.tmp 59) (.tmp 63) rfl rfl (FR.nil _ w.heap.size) A N cc _ rfl H7.out.2.2.1 H7.out.1.rdf H7.out.2.2.2 H7.out.2.1.size ?_; intro v8 w8 ho8 hb8 hg8 hj8; have H8 := Lib.hid (And.intro ho8 hb8); clear ho8 hb8 hg8 hj8)
  go_ret
  exact ⟨v8, rfl, H8.out.1, H7.out.2.1.trans H8.out.2⟩
end Go.Proofs.Ytaminpfgkegibaa
/- loamlaw26's known. No conditions. -/
namespace Go.Proofs.Ytaminpfgkegibaa
set_option linter.unusedVariables false
set_option linter.unusedSimpArgs false
open Go.RowKit Go.Maps
set_option maxHeartbeats 4000000
set_option maxRecDepth 100000
/-- A call that gives findings. -/
def FiP (l : List (Nat × ByteArray)) (w : World) (r : Ending) (w' : World) : Prop := ∃ lv, r = .returned lv ∧ FR w' w.heap.size lv l ∧ Below w.heap.size w w'
theorem imgA_c (w : World) (q c : Nat) (hr : Rd u64v w w.heap.size (some ⟨q, 0, none⟩) [1296125772#64, 196608#64, 9223372036854775808#64]) : Calls Try.prog 8 #[.slice (some ⟨q, 0, none⟩) 3 c] w (FiP [] w) :=
  (image3_c w q c 9223372036854775808#64 hr ([2], none) (by decide +kernel) (fun y h => by cases h) (by decide +kernel)).mono fun r w' ⟨lv, h1, h2, h3⟩ => ⟨lv, h1, (show badF none ++ allE [1296125772#64, 196608#64, 9223372036854775808#64] [2] [2] = [] from by kernel_rfl) ▸ h2, h3⟩
theorem imgB_c (w : World) (q c : Nat) (hr : Rd u64v w w.heap.size (some ⟨q, 0, none⟩) [1296125772#64, 196608#64, 5#64]) : Calls Try.prog 8 #[.slice (some ⟨q, 0, none⟩) 3 c] w (FiP [(2, headS)] w) :=
  (image3_c w q c 5#64 hr ([], some 2) (by decide +kernel) (fun y h => by injection h with h; subst h; decide +kernel) (by decide +kernel)).mono fun r w' ⟨lv, h1, h2, h3⟩ => ⟨lv, h1, (show badF (some 2) ++ allE [1296125772#64, 196608#64, 5#64] [] [] = [(2, headS)] from rfl) ▸ h2, h3⟩
theorem fr_some {w : World} {B : Nat} {v : Value} {p : Nat × ByteArray} {l : List (Nat × ByteArray)} {n : Nat} (h : FR w B v (p :: l)) (hn : n = l.length + 1) : ∃ q c, v = .slice (some ⟨q, 0, none⟩) n c := by
  rcases h.form with ⟨_, h⟩ | ⟨q, c, e, _⟩
  · cases h
  · exact ⟨q, c, by rw [e, hn]; rfl⟩
theorem imgN_c (w : World) : Calls Try.prog 8 #[.slice none 0 0] w (FiP [(0, magicS), (1, sizeS)] w) := by
  have HSz := Lib.hid sized0_c
  go_enter Try.func8, Try.ntmps8
  have HF := Lib.hid (fun v W (h : FR W w.heap.size v ([] ++ [(0, magicS)])) => fr_some (n := 1) h rfl)
  go_wp2_with (at_builtin; refine wp_appF rfl (.tmp 18) (.tmp 20) rfl rfl (FR.nil _ w.heap.size) (some ⟨w.heap.size, 0, none⟩) 1 1 [(0, magicS)] rfl rfl (rdF_new w 0 magicS) (by decide) (Gw.alloc w _).size ?_; intro v1 w1 ho1 hb1 hg1 hj1; have H1 := Lib.hid (And.intro ho1 ((Gw.alloc w _).trans hb1)); clear hb1 hg1 hj1; obtain ⟨q1, c1, e1⟩ := HF.out _ _ ho1; subst e1; clear ho1)
  refine Calls.mono (HSz.out w1) ?_
  rintro r w2 ⟨rfl, b2⟩
  have H2 := Lib.hid (And.intro (H1.out.1.below b2) (H1.out.2.trans (b2.mono H1.out.2.size)))
  clear b2
  go_wp2_with (at_builtin; refine wp_appF rfl (.tmp 29) (.tmp 31) rfl rfl (H2.out.1.below (Gw.alloc w2 _)) (some ⟨w2.heap.size, 0, none⟩) 1 1 [(1, sizeS)] rfl rfl (rdF_new w2 1 sizeS) (by decide) (Nat.le_trans H2.out.2.size (Gw.alloc w2 _).size) ?_; intro v3 w3 ho3 hb3 hg3 hj3; have H3 := Lib.hid (And.intro ho3 ((H2.out.2.trans ((Gw.alloc w2 _).mono H2.out.2.size)).trans hb3)); clear ho3 hb3 hg3 hj3)
  go_ret
  exact ⟨v3, rfl, H3.out.1, H3.out.2⟩
theorem right3_c (w : World) (q c : Nat) (hr : Rd u64v w w.heap.size (some ⟨q, 0, none⟩) [1296125772#64, 196608#64, 9223372036854775808#64]) : Calls Try.prog 12 #[.slice (some ⟨q, 0, none⟩) 3 c] w (RetP (.bool true) w) := by
  have HI := Lib.hid (imgA_c w q c hr)
  clear hr
  go_enter Try.func12, Try.ntmps12
  go_wp2_with fail
  refine Calls.mono HI.out ?_
  rintro r w1 ⟨lv, rfl, h1, b1⟩
  obtain ⟨A, cc, e0, _⟩ := h1.slice_
  replace e0 : lv = .slice A 0 cc := e0
  subst e0
  have H1 := Lib.hid b1
  clear h1 b1
  go_wp2_with fail
  go_ret
  exact ⟨rfl, H1.out⟩
theorem rightN_c (w : World) : Calls Try.prog 12 #[.slice none 0 0] w (RetP (.bool false) w) := by
  have HI := Lib.hid (imgN_c w)
  go_enter Try.func12, Try.ntmps12
  go_wp2_with fail
  refine Calls.mono HI.out ?_
  rintro r w1 ⟨lv, rfl, h1, b1⟩
  obtain ⟨q, cc, e0⟩ := fr_some (n := 2) h1 rfl
  subst e0
  have H1 := Lib.hid b1
  clear h1 b1
  go_wp2_with fail
  go_ret
  exact ⟨rfl, H1.out⟩
theorem rd3 (w : World) (c : Nat) (a b d : BitVec 64) (E : TypeId) : Rd u64v (w.alloc (.cells #[u64v a, u64v b, u64v d] E)) (w.heap.size + 1) (some ⟨w.heap.size, 0, none⟩) [a, b, d] := by
  have hb := Bk.new w E #[u64v a, u64v b, u64v d]
  intro j hj
  refine ⟨_, rfl, Nat.lt_succ_self _, ?_⟩
  rw [add_off]
  match j, hj with
  | 0, _ => exact hb.cell 0
  | 1, _ => exact hb.cell 1
  | 2, _ => exact hb.cell 2
theorem known26_c (w : World) : Calls Try.prog 7 #[] w (RetP (.bool true) w) := by
  have HN := Lib.hid imgN_c
  have HRn := Lib.hid rightN_c
  go_enter Try.func7, Try.ntmps7
  go_wp2_with fail
  obtain ⟨w1, hw1⟩ : ∃ W, W = w.alloc (.cells #[.int .u64 1296125772, .int .u64 196608, .int .u64 9223372036854775808] 57) := ⟨_, rfl⟩
  obtain ⟨q, hq⟩ : ∃ q, q = w.heap.size := ⟨_, rfl⟩
  have e1 : w1.heap.size = q + 1 := by rw [hw1, hq]; unfold World.alloc; simp
  have hA : Rd u64v w1 w1.heap.size (some ⟨q, 0, none⟩) [1296125772#64, 196608#64, 9223372036854775808#64] := by
    rw [e1, hq, hw1]
    exact rd3 w 0 1296125772#64 196608#64 9223372036854775808#64 57
  have b01 : Below w.heap.size w w1 := by rw [hw1]; exact Gw.alloc w _
  rw [← hw1, ← hq, ← e1]
  obtain ⟨w2, hw2⟩ : ∃ W, W = w1.alloc (.cells #[.int .u64 1296125772, .int .u64 196608, .int .u64 5] 57) := ⟨_, rfl⟩
  obtain ⟨q2, hq2⟩ : ∃ q, q = w1.heap.size := ⟨_, rfl⟩
  have e2 : w2.heap.size = q2 + 1 := by rw [hw2, hq2]; unfold World.alloc; simp
  have hB : Rd u64v w2 w2.heap.size (some ⟨q2, 0, none⟩) [1296125772#64, 196608#64, 5#64] := by
    rw [e2, hq2, hw2]
    exact rd3 w1 0 1296125772#64 196608#64 5#64 57
  have b12 : Below w1.heap.size w1 w2 := by rw [hw2]; exact Gw.alloc w1 _
  rw [← hw2, ← hq2]
  have H2 := Lib.hid (And.intro ((hA.below b12).more b12.size) (b01.trans (b12.mono b01.size)))
  have HIB := Lib.hid (imgB_c w2 q2 3 hB)
  clear hw1 hw2 hq hq2 e1 e2 hA hB b01 b12
  refine Calls.mono HIB.out ?_
  rintro r w3 ⟨lf, rfl, h3, b3⟩
  obtain ⟨qf, cf, e0⟩ := fr_some (n := 1) h3 rfl
  subst e0
  obtain ⟨qq, hqq, _, hql, f0, f1⟩ := h3.at_ 0 (by decide)
  injection hqq with hqq
  injection hqq with hqq
  subst hqq
  have f0 : w3.cell? ⟨qf, 0, none⟩ = some (.int .i64 2) := f0
  have f1 : w3.cell? ⟨qf, 1, none⟩ = some (.string headS) := f1
  have H3 := Lib.hid (And.intro hql (And.intro f0 (And.intro f1 (And.intro ((H2.out.1.below b3).more b3.size) (H2.out.2.trans (b3.mono H2.out.2.size))))))
  clear h3 b3 hql f0 f1 HIB H2
  go_wp2_with fail
  refine Calls.mono (HN.out w3) ?_
  rintro r w4 ⟨lg, rfl, h4, b4⟩
  obtain ⟨qg, cg, e0⟩ := fr_some (n := 2) h4 rfl
  subst e0
  obtain ⟨qq, hqq, _, hql, _, g1⟩ := h4.at_ 0 (by decide)
  injection hqq with hqq
  injection hqq with hqq
  subst hqq
  obtain ⟨qq, hqq, _, _, _, g2⟩ := h4.at_ 1 (by decide)
  injection hqq with hqq
  injection hqq with hqq
  subst hqq
  have g1 : w4.cell? ⟨qg, 1, none⟩ = some (.string magicS) := g1
  have g2 : w4.cell? ⟨qg, 3, none⟩ = some (.string sizeS) := g2
  have H4 := Lib.hid (And.intro hql (And.intro g1 (And.intro g2 (And.intro ((H3.out.2.2.2.1.below b4).more b4.size) (And.intro (H3.out.2.2.2.2.trans (b4.mono H3.out.2.2.2.2.size)) b4)))))
  clear h4 b4 hql g1 g2 HN
  go_wp2_with fail
  refine Calls.mono (right3_c w4 _ _ H4.out.2.2.2.1) ?_
  rintro r w5 ⟨rfl, b5⟩
  have H5 := Lib.hid (And.intro ((H4.out.2.2.2.1.below b5).more b5.size) b5)
  clear b5
  go_wp2_with fail
  refine Calls.mono (imgA_c w5 _ _ H5.out.1) ?_
  rintro r w6 ⟨ll, rfl, h6, b6⟩
  obtain ⟨A, cc, e0, _⟩ := h6.slice_
  replace e0 : ll = .slice A 0 cc := e0
  subst e0
  have b46 : Below w4.heap.size w4 w6 := H5.out.2.trans (b6.mono H5.out.2.size)
  have b36 : Below w3.heap.size w3 w6 := H4.out.2.2.2.2.2.trans (b46.mono H4.out.2.2.2.2.2.size)
  have b06 : Below w.heap.size w w6 := H4.out.2.2.2.2.1.trans (b46.mono H4.out.2.2.2.2.1.size)
  have f0 : w6.cell? ⟨qf, 0, none⟩ = some (.int .i64 2) := (b36.cell (p := ⟨qf, 0, none⟩) H3.out.1).trans H3.out.2.1
  have f1 : w6.cell? ⟨qf, 1, none⟩ = some (.string ⟨#[104, 101, 97, 100]⟩) := (b36.cell (p := ⟨qf, 1, none⟩) H3.out.1).trans H3.out.2.2.1
  have g1 : w6.cell? ⟨qg, 1, none⟩ = some (.string ⟨#[109, 97, 103, 105, 99]⟩) := (b46.cell (p := ⟨qg, 1, none⟩) H4.out.1).trans H4.out.2.1
  have g2 : w6.cell? ⟨qg, 3, none⟩ = some (.string ⟨#[115, 105, 122, 101]⟩) := (b46.cell (p := ⟨qg, 3, none⟩) H4.out.1).trans H4.out.2.2.1
  have H6 := Lib.hid b06
  clear b46 b36 b06 b6 h6
  go_wp2_with fail
  refine Calls.mono (HRn.out w6) ?_
  rintro r w7 ⟨rfl, b7⟩
  have H7 := Lib.hid b7
  clear b7
  go_wp2_with fail
  go_ret
  exact ⟨rfl, H6.out.trans (H7.out.mono H6.out.size)⟩
end Go.Proofs.Ytaminpfgkegibaa
/- check.Image at a row whose size is not what its second word says. Conditions: the first two words. -/
namespace Go.Proofs.Ytaminpfgkegibaa
set_option linter.unusedVariables false
set_option linter.unusedSimpArgs false
open Go.RowKit Go.Maps
set_option maxHeartbeats 4000000
set_option maxRecDepth 100000
end Go.Proofs.Ytaminpfgkegibaa
/- check.looked.roots; base, sized at words that say their own length. Conditions: lengths. -/
namespace Go.Proofs.Ytaminpfgkegibaa
set_option linter.unusedVariables false
set_option linter.unusedSimpArgs false
open Go.RowKit Go.Maps
set_option maxHeartbeats 4000000
set_option maxRecDepth 100000
theorem ckbaseR_c (R : Nat) (hR : R ≤ 65535) (w : World) : Calls Try.prog 23 #[.int .i64 (R : Int)] w (RetP (.int .i64 ((2 + 5 * R : Nat) : Int)) w) := by
  obtain ⟨q, hq⟩ : ∃ q, q = 2 + 5 * R := ⟨_, rfl⟩
  rw [← hq]
  obtain ⟨m, hm⟩ : ∃ m, m = 5 * R := ⟨_, rfl⟩
  have q1 : 5 * (R : Int) = (m : Int) := by omega
  have q2 : 2 + (m : Int) = (q : Int) := by omega
  have q3 : (q : Int) ≤ 400000 := by omega
  have q4 : (m : Int) ≤ 400000 := by omega
  have q5 : (R : Int) ≤ 65535 := by omega
  clear hq hm hR
  go_enter Try.func23, Try.ntmps23
  go_wp2_with fail
  go_ret
  exact ⟨rfl, Below.refl _ _⟩
section
variable {wB w w1 w2 : World} {B Bs Xb s g mb : Nat} {v rv lv lv' : Value} {ws : List (BitVec 64)} {b t e : Nat} {p : List Nat} {fs fs2 : List (Nat × ByteArray)}
theorem ToldP.refl' (h : LkAt w B Xb s mb rv lv ws p fs) (hb : Below B wB w) : ToldP w wB B Xb s mb rv lv ws p fs w := ⟨lv, h, Kept.refl _ _, fun _ h => .inl h, hb⟩
theorem ToldP.below (h : ToldP w wB B Xb s mb rv lv ws p fs w1) (hb : Below w1.heap.size w1 w2) : ToldP w wB B Xb s mb rv lv ws p fs w2 := by
  obtain ⟨lv', h1, h2, h3, h4⟩ := h
  exact ⟨lv', h1.below hb, h2.trans (Kept.of_below hb _), h3, h4.trans (hb.mono h1.lts.2.2.2.2)⟩
theorem told_tell {r : Ending} (h1 : LkAt w1 B Xb s mb rv lv' ws p fs) (e3 : Kept (fun k => k = Xb ∨ lv.ownBlock = some k) w w1) (e4 : ∀ k, lv'.ownBlock = some k → lv.ownBlock = some k ∨ w.heap.size ≤ k) (hb : Below B wB w1) (ht : TellP w1 B Xb s mb rv lv' ws p fs2 r w2) : r = .returned (.tuple #[]) ∧ ToldP w wB B Xb s mb rv lv ws p fs2 w2 := by
  obtain ⟨hr, lv2, h2, k2, n2⟩ := ht
  refine ⟨hr, ToldP.trans e3 e4 ⟨lv2, h2, k2, n2, hb.trans (k2.below h1.lts.2.2.2.2 (fun k hk => ?_))⟩⟩
  rcases hk with hk | hk
  · rw [hk]; exact h1.BX.1
  · exact (h1.lts.2.2.2.1 k hk).1
theorem ckrootsG_c (w : World) (R : Nat) (hS : SpB wB B Bs s g v ws b t e) (hbw : Below B wB w) (h : LkAt w B Xb s mb rv lv ws p fs) (hl : (fs ++ rootF ws p R 0 ⟨#[]⟩).length ≤ 9000) (hw : ws.length ≤ 8192) (hp : ∀ a ∈ p, a < 8192 ∧ 1 ≤ szX (ws.getD a 0#64)) (hR : 2 + 5 * R ≤ ws.length) :
    Calls Try.prog 25 #[.pointer (some ⟨Xb, 0, none⟩), .int .i64 (R : Int)] w (fun r w' => r = .returned (.tuple #[]) ∧ ToldP w wB B Xb s mb rv lv ws p (fs ++ rootF ws p R 0 ⟨#[]⟩) w') := by
  obtain ⟨G, hG⟩ : ∃ G, G = fs ++ rootF ws p R 0 ⟨#[]⟩ := ⟨_, rfl⟩
  rw [← hG] at hl ⊢
  have HL := Lib.hid hl
  have HSp := Lib.hid hS
  have HX := Lib.hid (And.intro hw (And.intro hp hR))
  have HS0 : Hid (∃ fs', ToldP w wB B Xb s mb rv lv ws p fs' w ∧ fs' ++ rootF ws p (R - 0) 0 ⟨#[]⟩ = G) := Lib.hid ⟨fs, ToldP.refl' h hbw, hG.symm⟩
  have RI : (R : Int) ≤ 8192 := by omega
  clear hS hbw h hl hw hp hR hG
  go_enter Try.func25, Try.ntmps25
  go_wp2_with fail
  go_loopw [4, 13] (fun o x W => ∃ (i : Nat) (ab : ByteArray), x = .int .i64 i ∧ o = .string ab ∧ i ≤ R ∧ Hid (∃ fs', ToldP w wB B Xb s mb rv lv ws p fs' W ∧ fs' ++ rootF ws p (R - i) i ab = G)) (fun _ x _ => R - (Go.RowKit.intOf x).toNat)
  case atStart => exact ⟨0, ⟨#[]⟩, rfl, rfl, Nat.zero_le _, HS0⟩
  case round =>
    obtain ⟨i, ab, rfl, rfl, hi, hS⟩ := hrel
    clear HS0
    obtain ⟨fs', T0, hG⟩ := hS.out
    have p0 : (0 : Int) ≤ (i : Int) := by omega
    by_cases hlt : i < R
    · have p1 : (i : Int) < (R : Int) := by omega
      obtain ⟨q, hq⟩ : ∃ q, q = 2 + 5 * i := ⟨_, rfl⟩
      obtain ⟨q4, hq4⟩ : ∃ q4, q4 = q + 4 := ⟨_, rfl⟩
      have hql : q4 < ws.length := by have := HX.out.2.2; omega
      have qI : (q : Int) + 4 = (q4 : Int) := by omega
      have qJ : (q4 : Int) ≤ 8192 := by have := HX.out.1; omega
      have qK : (0 : Int) ≤ (q : Int) := by omega
      obtain ⟨j, hj⟩ : ∃ j, R - i = j + 1 := ⟨R - i - 1, by omega⟩
      have hj2 : R - (i + 1) = j := by omega
      obtain ⟨nm, hnm⟩ : ∃ nm, nm = nmS ws i := ⟨_, rfl⟩
      obtain ⟨ok, hok⟩ : ∃ ok, ok = nmOk (nmAt ws i) := ⟨_, rfl⟩
      obtain ⟨le, hle⟩ : ∃ le, le = lessS nm ab := ⟨_, rfl⟩
      obtain ⟨ld, hld⟩ : ∃ ld, ld = leadB ws p q4 := ⟨_, rfl⟩
      rw [hj] at hG
      have hG2 : fs' ++ ((if ok = true ∧ le = false then [] else [(q, nameS)]) ++ (if ld = true then [] else [(q4, rootS)]) ++ rootF ws p j (i + 1) (if ok = true then nm else ab)) = G := by
        rw [hle, hld, hok, hnm, hq4, hq]
        exact hG
      have hfl : fs'.length ≤ 9000 := by
        have h1 := HL.out
        rw [← hG2, List.length_append] at h1
        omega
      have HE := Lib.hid (And.intro hG2 (And.intro hj2 hfl))
      have hy2 : (Op.bytesLess nm.toList ab.toList || nm.toList == ab.toList) = le := hle.symm
      have HBs := Lib.hid (fun W => hq ▸ ckbaseR_c i (by have := HX.out.1; have := HX.out.2.2; omega) W)
      have HNm := Lib.hid (fun W (hsp : SpAt W Bs s g v ws b t e) (lv' : Value) (fs' : List (Nat × ByteArray)) (h : LkAt W B Xb s mb rv lv' ws p fs') => name_c W hsp h HX.out.1 i q hq (by omega))
      rw [← hnm, ← hok] at HNm
      have HGt := Lib.hid (fun W (hsp : SpAt W Bs s g v ws b t e) => get_in W Bs g v ws q4 hql (by have := HX.out.1; omega) hsp.mem)
      obtain ⟨y, hy⟩ : ∃ y, y = ws[q4] := ⟨_, rfl⟩
      rw [← hy] at HGt
      have hye : ws.getD q4 0#64 = y := by rw [hy, List.getD_eq_getElem?_getD, List.getElem?_eq_getElem hql]; rfl
      have HLd := Lib.hid (fun W (lv' : Value) (fs' : List (Nat × ByteArray)) (h : LkAt W B Xb s mb rv lv' ws p fs') => leads_c W h y HX.out.2.1)
      have hld2 : decide (y.toNat = 0 ∨ (1 ≤ y.toNat ∧ y.toNat - 1 ∈ p)) = ld := by rw [hld]; unfold leadB; rw [hye]
      rw [hld2] at HLd
      obtain ⟨xv, hxv⟩ : ∃ xv, xv = U64 y := ⟨_, rfl⟩
      rw [← hxv] at HGt HLd
      have H0 := Lib.hid T0
      clear hS T0 hG hG2 hj hj2 hq hq4 hql hnm hok hle hld hy hye hld2 hfl hxv
      go_wp2_with fail
      refine Calls.mono (HBs.out wr) ?_
      rintro r w5 ⟨rfl, b5⟩
      have H5 := Lib.hid (H0.out.below b5)
      clear b5 H0 HBs
      go_wp2_with fail
      obtain ⟨lv5, h5, k5, n5, b5⟩ := H5.out
      refine Calls.mono (HNm.out w5 (HSp.out.at_ b5) lv5 fs' h5) ?_
      rintro r w6 ⟨rfl, b6⟩
      have H6 := Lib.hid (H5.out.below b6)
      clear b6 H5 HNm h5 k5 n5 b5
      cases ok with
      | false =>
        clear hy2
        cases ld with
        | false =>
          obtain ⟨lvt, ht, kt, nt, bt⟩ := H6.out
          have HT := Lib.hid (tell_c w6 ht (by have := HE.out.2.2; omega) q nameS)
          have HK := Lib.hid (And.intro ht (And.intro kt (And.intro nt bt)))
          clear ht kt nt bt
          unfold nameS at HT
          go_wp2_with fail
          refine Calls.mono HT.out ?_
          intro r w7 htl
          obtain ⟨rfl, hto⟩ := told_tell HK.out.1 HK.out.2.1 HK.out.2.2.1 HK.out.2.2.2 htl
          have H6b : Hid (ToldP w wB B Xb s mb rv lv ws p (fs' ++ [(q, nameS)]) w7) := Lib.hid hto
          clear htl hto HT HK H6
          obtain ⟨lvn, hn, kn, nn, bn⟩ := H6b.out
          have sp := HSp.out.at_ bn
          obtain ⟨c0, c1, c2, c3⟩ := hn.four
          have hXl := hn.blk.lt
          obtain ⟨d0, d1, d2, d3⟩ := sp.four
          have hsl := sp.blk.lt
          have HGn := Lib.hid (HGt.out w7 sp)
          have HLn := Lib.hid (HLd.out w7 lvn _ hn)
          clear hn kn nn bn sp c1 c2 c3 d1 d2 d3
          go_wp2_with fail
          refine Calls.mono HGn.out ?_
          rintro r w8 ⟨rfl, rfl⟩
          go_wp2_with fail
          refine Calls.mono HLn.out ?_
          rintro r w9 ⟨rfl, b9⟩
          have H9 := Lib.hid (H6b.out.below b9)
          clear b9 c0 d0 hXl hsl HGn HLn H6b
          obtain ⟨lvt, ht, kt, nt, bt⟩ := H9.out
          have HT := Lib.hid (tell_c w9 ht (by have := HE.out.2.2; simp; omega) q4 rootS)
          have HK := Lib.hid (And.intro ht (And.intro kt (And.intro nt bt)))
          clear ht kt nt bt
          unfold rootS at HT
          go_wp2_with fail
          refine Calls.mono HT.out ?_
          intro r w10 htl
          obtain ⟨rfl, hto⟩ := told_tell HK.out.1 HK.out.2.1 HK.out.2.2.1 HK.out.2.2.2 htl
          have H9b : Hid (ToldP w wB B Xb s mb rv lv ws p ((fs' ++ [(q, nameS)]) ++ [(q4, rootS)]) w10) := Lib.hid hto
          clear htl hto HT HK H9
          have HN : Hid (∃ fs', ToldP w wB B Xb s mb rv lv ws p fs' w10 ∧ fs' ++ rootF ws p (R - (i + 1)) (i + 1) ab = G) := Lib.hid ⟨(fs' ++ [(q, nameS)]) ++ [(q4, rootS)], H9b.out, by have h1 := HE.out.1; rw [HE.out.2.1]; simpa using h1⟩
          clear H9b
          go_wp2_with fail
          go_roundw
          case rel => first | exact ⟨i + 1, ab, by go_num, rfl, by omega, HN⟩ | ((repeat apply Exists.intro); refine ⟨?_, rfl⟩; exact ⟨i + 1, ab, by go_num, rfl, by omega, HN⟩)
          case measure => simp [Go.RowKit.intOf]; omega
        | true =>
          obtain ⟨lvt, ht, kt, nt, bt⟩ := H6.out
          have HT := Lib.hid (tell_c w6 ht (by have := HE.out.2.2; omega) q nameS)
          have HK := Lib.hid (And.intro ht (And.intro kt (And.intro nt bt)))
          clear ht kt nt bt
          unfold nameS at HT
          go_wp2_with fail
          refine Calls.mono HT.out ?_
          intro r w7 htl
          obtain ⟨rfl, hto⟩ := told_tell HK.out.1 HK.out.2.1 HK.out.2.2.1 HK.out.2.2.2 htl
          have H6b : Hid (ToldP w wB B Xb s mb rv lv ws p (fs' ++ [(q, nameS)]) w7) := Lib.hid hto
          clear htl hto HT HK H6
          obtain ⟨lvn, hn, kn, nn, bn⟩ := H6b.out
          have sp := HSp.out.at_ bn
          obtain ⟨c0, c1, c2, c3⟩ := hn.four
          have hXl := hn.blk.lt
          obtain ⟨d0, d1, d2, d3⟩ := sp.four
          have hsl := sp.blk.lt
          have HGn := Lib.hid (HGt.out w7 sp)
          have HLn := Lib.hid (HLd.out w7 lvn _ hn)
          clear hn kn nn bn sp c1 c2 c3 d1 d2 d3
          go_wp2_with fail
          refine Calls.mono HGn.out ?_
          rintro r w8 ⟨rfl, rfl⟩
          go_wp2_with fail
          refine Calls.mono HLn.out ?_
          rintro r w9 ⟨rfl, b9⟩
          have H9 := Lib.hid (H6b.out.below b9)
          clear b9 c0 d0 hXl hsl HGn HLn H6b
          have HN : Hid (∃ fs', ToldP w wB B Xb s mb rv lv ws p fs' w9 ∧ fs' ++ rootF ws p (R - (i + 1)) (i + 1) ab = G) := Lib.hid ⟨fs' ++ [(q, nameS)], H9.out, by have h1 := HE.out.1; rw [HE.out.2.1]; simpa using h1⟩
          clear H9
          go_wp2_with fail
          go_roundw
          case rel => first | exact ⟨i + 1, ab, by go_num, rfl, by omega, HN⟩ | ((repeat apply Exists.intro); refine ⟨?_, rfl⟩; exact ⟨i + 1, ab, by go_num, rfl, by omega, HN⟩)
          case measure => simp [Go.RowKit.intOf]; omega
      | true =>
        cases le with
        | false =>
          cases ld with
          | false =>
            obtain ⟨lvn, hn, kn, nn, bn⟩ := H6.out
            have sp := HSp.out.at_ bn
            obtain ⟨c0, c1, c2, c3⟩ := hn.four
            have hXl := hn.blk.lt
            obtain ⟨d0, d1, d2, d3⟩ := sp.four
            have hsl := sp.blk.lt
            have HGn := Lib.hid (HGt.out w6 sp)
            have HLn := Lib.hid (HLd.out w6 lvn _ hn)
            clear hn kn nn bn sp c1 c2 c3 d1 d2 d3
            go_wp2_with fail
            refine Calls.mono HGn.out ?_
            rintro r w8 ⟨rfl, rfl⟩
            go_wp2_with fail
            refine Calls.mono HLn.out ?_
            rintro r w9 ⟨rfl, b9⟩
            have H9 := Lib.hid (H6.out.below b9)
            clear b9 c0 d0 hXl hsl HGn HLn H6
            obtain ⟨lvt, ht, kt, nt, bt⟩ := H9.out
            have HT := Lib.hid (tell_c w9 ht (by have := HE.out.2.2; simp; omega) q4 rootS)
            have HK := Lib.hid (And.intro ht (And.intro kt (And.intro nt bt)))
            clear ht kt nt bt
            unfold rootS at HT
            go_wp2_with fail
            refine Calls.mono HT.out ?_
            intro r w10 htl
            obtain ⟨rfl, hto⟩ := told_tell HK.out.1 HK.out.2.1 HK.out.2.2.1 HK.out.2.2.2 htl
            have H9b : Hid (ToldP w wB B Xb s mb rv lv ws p ((fs') ++ [(q4, rootS)]) w10) := Lib.hid hto
            clear htl hto HT HK H9
            have HN : Hid (∃ fs', ToldP w wB B Xb s mb rv lv ws p fs' w10 ∧ fs' ++ rootF ws p (R - (i + 1)) (i + 1) nm = G) := Lib.hid ⟨(fs') ++ [(q4, rootS)], H9b.out, by have h1 := HE.out.1; rw [HE.out.2.1]; simpa using h1⟩
            clear H9b
            go_wp2_with fail
            go_roundw
            case rel => first | exact ⟨i + 1, nm, by go_num, rfl, by omega, HN⟩ | ((repeat apply Exists.intro); refine ⟨?_, rfl⟩; exact ⟨i + 1, nm, by go_num, rfl, by omega, HN⟩)
            case measure => simp [Go.RowKit.intOf]; omega
          | true =>
            obtain ⟨lvn, hn, kn, nn, bn⟩ := H6.out
            have sp := HSp.out.at_ bn
            obtain ⟨c0, c1, c2, c3⟩ := hn.four
            have hXl := hn.blk.lt
            obtain ⟨d0, d1, d2, d3⟩ := sp.four
            have hsl := sp.blk.lt
            have HGn := Lib.hid (HGt.out w6 sp)
            have HLn := Lib.hid (HLd.out w6 lvn _ hn)
            clear hn kn nn bn sp c1 c2 c3 d1 d2 d3
            go_wp2_with fail
            refine Calls.mono HGn.out ?_
            rintro r w8 ⟨rfl, rfl⟩
            go_wp2_with fail
            refine Calls.mono HLn.out ?_
            rintro r w9 ⟨rfl, b9⟩
            have H9 := Lib.hid (H6.out.below b9)
            clear b9 c0 d0 hXl hsl HGn HLn H6
            have HN : Hid (∃ fs', ToldP w wB B Xb s mb rv lv ws p fs' w9 ∧ fs' ++ rootF ws p (R - (i + 1)) (i + 1) nm = G) := Lib.hid ⟨fs', H9.out, by have h1 := HE.out.1; rw [HE.out.2.1]; simpa using h1⟩
            clear H9
            go_wp2_with fail
            go_roundw
            case rel => first | exact ⟨i + 1, nm, by go_num, rfl, by omega, HN⟩ | ((repeat apply Exists.intro); refine ⟨?_, rfl⟩; exact ⟨i + 1, nm, by go_num, rfl, by omega, HN⟩)
            case measure => simp [Go.RowKit.intOf]; omega
        | true =>
          cases ld with
          | false =>
            obtain ⟨lvt, ht, kt, nt, bt⟩ := H6.out
            have HT := Lib.hid (tell_c w6 ht (by have := HE.out.2.2; omega) q nameS)
            have HK := Lib.hid (And.intro ht (And.intro kt (And.intro nt bt)))
            clear ht kt nt bt
            unfold nameS at HT
            go_wp2_with fail
            refine Calls.mono HT.out ?_
            intro r w7 htl
            obtain ⟨rfl, hto⟩ := told_tell HK.out.1 HK.out.2.1 HK.out.2.2.1 HK.out.2.2.2 htl
            have H6b : Hid (ToldP w wB B Xb s mb rv lv ws p (fs' ++ [(q, nameS)]) w7) := Lib.hid hto
            clear htl hto HT HK H6
            obtain ⟨lvn, hn, kn, nn, bn⟩ := H6b.out
            have sp := HSp.out.at_ bn
            obtain ⟨c0, c1, c2, c3⟩ := hn.four
            have hXl := hn.blk.lt
            obtain ⟨d0, d1, d2, d3⟩ := sp.four
            have hsl := sp.blk.lt
            have HGn := Lib.hid (HGt.out w7 sp)
            have HLn := Lib.hid (HLd.out w7 lvn _ hn)
            clear hn kn nn bn sp c1 c2 c3 d1 d2 d3
            go_wp2_with fail
            refine Calls.mono HGn.out ?_
            rintro r w8 ⟨rfl, rfl⟩
            go_wp2_with fail
            refine Calls.mono HLn.out ?_
            rintro r w9 ⟨rfl, b9⟩
            have H9 := Lib.hid (H6b.out.below b9)
            clear b9 c0 d0 hXl hsl HGn HLn H6b
            obtain ⟨lvt, ht, kt, nt, bt⟩ := H9.out
            have HT := Lib.hid (tell_c w9 ht (by have := HE.out.2.2; simp; omega) q4 rootS)
            have HK := Lib.hid (And.intro ht (And.intro kt (And.intro nt bt)))
            clear ht kt nt bt
            unfold rootS at HT
            go_wp2_with fail
            refine Calls.mono HT.out ?_
            intro r w10 htl
            obtain ⟨rfl, hto⟩ := told_tell HK.out.1 HK.out.2.1 HK.out.2.2.1 HK.out.2.2.2 htl
            have H9b : Hid (ToldP w wB B Xb s mb rv lv ws p ((fs' ++ [(q, nameS)]) ++ [(q4, rootS)]) w10) := Lib.hid hto
            clear htl hto HT HK H9
            have HN : Hid (∃ fs', ToldP w wB B Xb s mb rv lv ws p fs' w10 ∧ fs' ++ rootF ws p (R - (i + 1)) (i + 1) nm = G) := Lib.hid ⟨(fs' ++ [(q, nameS)]) ++ [(q4, rootS)], H9b.out, by have h1 := HE.out.1; rw [HE.out.2.1]; simpa using h1⟩
            clear H9b
            go_wp2_with fail
            go_roundw
            case rel => first | exact ⟨i + 1, nm, by go_num, rfl, by omega, HN⟩ | ((repeat apply Exists.intro); refine ⟨?_, rfl⟩; exact ⟨i + 1, nm, by go_num, rfl, by omega, HN⟩)
            case measure => simp [Go.RowKit.intOf]; omega
          | true =>
            obtain ⟨lvt, ht, kt, nt, bt⟩ := H6.out
            have HT := Lib.hid (tell_c w6 ht (by have := HE.out.2.2; omega) q nameS)
            have HK := Lib.hid (And.intro ht (And.intro kt (And.intro nt bt)))
            clear ht kt nt bt
            unfold nameS at HT
            go_wp2_with fail
            refine Calls.mono HT.out ?_
            intro r w7 htl
            obtain ⟨rfl, hto⟩ := told_tell HK.out.1 HK.out.2.1 HK.out.2.2.1 HK.out.2.2.2 htl
            have H6b : Hid (ToldP w wB B Xb s mb rv lv ws p (fs' ++ [(q, nameS)]) w7) := Lib.hid hto
            clear htl hto HT HK H6
            obtain ⟨lvn, hn, kn, nn, bn⟩ := H6b.out
            have sp := HSp.out.at_ bn
            obtain ⟨c0, c1, c2, c3⟩ := hn.four
            have hXl := hn.blk.lt
            obtain ⟨d0, d1, d2, d3⟩ := sp.four
            have hsl := sp.blk.lt
            have HGn := Lib.hid (HGt.out w7 sp)
            have HLn := Lib.hid (HLd.out w7 lvn _ hn)
            clear hn kn nn bn sp c1 c2 c3 d1 d2 d3
            go_wp2_with fail
            refine Calls.mono HGn.out ?_
            rintro r w8 ⟨rfl, rfl⟩
            go_wp2_with fail
            refine Calls.mono HLn.out ?_
            rintro r w9 ⟨rfl, b9⟩
            have H9 := Lib.hid (H6b.out.below b9)
            clear b9 c0 d0 hXl hsl HGn HLn H6b
            have HN : Hid (∃ fs', ToldP w wB B Xb s mb rv lv ws p fs' w9 ∧ fs' ++ rootF ws p (R - (i + 1)) (i + 1) nm = G) := Lib.hid ⟨fs' ++ [(q, nameS)], H9.out, by have h1 := HE.out.1; rw [HE.out.2.1]; simpa using h1⟩
            clear H9
            go_wp2_with fail
            go_roundw
            case rel => first | exact ⟨i + 1, nm, by go_num, rfl, by omega, HN⟩ | ((repeat apply Exists.intro); refine ⟨?_, rfl⟩; exact ⟨i + 1, nm, by go_num, rfl, by omega, HN⟩)
            case measure => simp [Go.RowKit.intOf]; omega
    · have p1 : ¬ (i : Int) < (R : Int) := by omega
      have hG2 : fs' = G := by rw [← hG, show R - i = 0 by omega]; exact (List.append_nil _).symm
      have HE := Lib.hid (hG2 ▸ T0)
      clear T0 hG hG2 hS
      go_wp2_with fail
      go_end0
      exact ⟨rfl, HE.out⟩
end
end Go.Proofs.Ytaminpfgkegibaa
/- check.Image and check.Right at words that say their own length. Conditions: the first two words. -/
namespace Go.Proofs.Ytaminpfgkegibaa
set_option linter.unusedVariables false
set_option linter.unusedSimpArgs false
open Go.RowKit Go.Maps
set_option maxHeartbeats 4000000
set_option maxRecDepth 100000
end Go.Proofs.Ytaminpfgkegibaa
