/- loamlaw19.rising: the same texts in their order. Conditions: lengths. -/
import Derived.Test.YtdfhdgdhhgabbaaNmA4
import Derived.Deep.CutRange
import Derived.Deep.CutBlock
namespace Go.Proofs.Ytdfhdgdhhgabbaa
set_option linter.unusedVariables false
set_option linter.unusedSimpArgs false
open Go.RowKit Go.Maps
set_option maxHeartbeats 2000000
set_option maxRecDepth 100000
theorem ri60_reg (Q : Exit → Act → World → Prop) (a0 : Act) (w : World)  (hsz : a0.tmps.size = 50) (sl5 : a0.tmps.getD 5 undef = .int .i64 0)
    (fin : ∀ (vals : Nat → Value) (w1 : World), Below w.heap.size w w1 → (IsV (.bool false)) (vals 15) w1 → Q .normal (putD vals [15, 16, 17, 18, 19, 20, 21, 22, 23, 24, 25, 26, 27, 28, 29, 30] 0 a0) w1) :
    (Code.region 6 (regIn Try.f18 6) true).wp Try.prog Q a0 w := by
  refine region_by (G := fun w w1 => Below w.heap.size w w1) [IsV (.int .i64 0),
    IsV (.bool false),
    IsV (.bool false),
    IsV undef,
    IsV undef,
    IsV undef,
    IsV undef,
    IsV undef,
    IsV undef,
    IsV undef,
    IsV undef,
    IsV undef,
    IsV undef,
    IsV undef,
    IsV undef,
    IsV (.bool false)]
    [15, 16, 17, 18, 19, 20, 21, 22, 23, 24, 25, 26, 27, 28, 29, 30] (by kernel_rfl) (Gw.drew _) Gw.trans (by rw [hsz]; kernel_rfl) (by kernel_rfl) ?_ ?_ ?_
  · intro f hf
    simp only [List.mem_cons, List.not_mem_nil, or_false] at hf
    rcases hf with rfl | rfl | rfl | rfl | rfl | rfl | rfl | rfl | rfl | rfl | rfl | rfl | rfl | rfl | rfl | rfl <;> intro v a b h g <;> first | exact IsV.mono h
  · refine ⟨?_, ?_, ?_, ?_, ?_, ?_, ?_, ?_, ?_, ?_, ?_, ?_, ?_, ?_, ?_, ?_, trivial⟩
    · exact owes_mv 5 (by kernel_rfl) (by kernel_rfl) (by kernel_rfl) sl5 (fun _ => rfl)
    · refine owes_v (Go.Op.binOp Go.BinOp.gtr 3 (Go.Operand.tmp 15) (Go.Operand.const (Go.Value.int Go.IntKind.i64 0)) 3) 4 [0] (by kernel_rfl) (by kernel_rfl) (by kernel_rfl) rfl fun vals w1 ρ hG hF hρ hcst hfun => ?_
      have e15 : ρ (.tmp 15) = .int .i64 0 := ((hρ 15).trans (slotJ [0] (by rw [hsz]; decide) (by kernel_rfl))).trans (hF 0 (by decide))
      clear hρ hF hfun sl5 fin
      exact opv_val (by go_simp <;> rfl) ⟨gw_self _, rfl⟩
    · exact owes_mvj 1 16 (by kernel_rfl) (by kernel_rfl) (by kernel_rfl) (by kernel_rfl) (by rw [hsz]; decide) (fun v w h => h)
    · exact owes_no 2 false true (by decide) (by kernel_rfl) (by kernel_rfl) (fun _ _ h => h) (by rw [hsz]; kernel_rfl) (fun _ => rfl)
    · exact owes_no 2 false true (by decide) (by kernel_rfl) (by kernel_rfl) (fun _ _ h => h) (by rw [hsz]; kernel_rfl) (fun _ => rfl)
    · exact owes_no 2 false true (by decide) (by kernel_rfl) (by kernel_rfl) (fun _ _ h => h) (by rw [hsz]; kernel_rfl) (fun _ => rfl)
    · exact owes_no 2 false true (by decide) (by kernel_rfl) (by kernel_rfl) (fun _ _ h => h) (by rw [hsz]; kernel_rfl) (fun _ => rfl)
    · exact owes_no 2 false true (by decide) (by kernel_rfl) (by kernel_rfl) (fun _ _ h => h) (by rw [hsz]; kernel_rfl) (fun _ => rfl)
    · exact owes_no 2 false true (by decide) (by kernel_rfl) (by kernel_rfl) (fun _ _ h => h) (by rw [hsz]; kernel_rfl) (fun _ => rfl)
    · exact owes_no 2 false true (by decide) (by kernel_rfl) (by kernel_rfl) (fun _ _ h => h) (by rw [hsz]; kernel_rfl) (fun _ => rfl)
    · exact owes_no 2 false true (by decide) (by kernel_rfl) (by kernel_rfl) (fun _ _ h => h) (by rw [hsz]; kernel_rfl) (fun _ => rfl)
    · exact owes_no 2 false true (by decide) (by kernel_rfl) (by kernel_rfl) (fun _ _ h => h) (by rw [hsz]; kernel_rfl) (fun _ => rfl)
    · exact owes_no 2 false true (by decide) (by kernel_rfl) (by kernel_rfl) (fun _ _ h => h) (by rw [hsz]; kernel_rfl) (fun _ => rfl)
    · exact owes_no 2 false true (by decide) (by kernel_rfl) (by kernel_rfl) (fun _ _ h => h) (by rw [hsz]; kernel_rfl) (fun _ => rfl)
    · exact owes_no 2 false true (by decide) (by kernel_rfl) (by kernel_rfl) (fun _ _ h => h) (by rw [hsz]; kernel_rfl) (fun _ => rfl)
    · refine owes_v (Go.Op.pick (Go.Operand.tmp 17) (Go.Operand.tmp 29) (Go.Operand.const (Go.Value.bool false))) 4 [2, 14] (by kernel_rfl) (by kernel_rfl) (by kernel_rfl) rfl fun vals w1 ρ hG hF hρ hcst hfun => ?_
      have e17 : ρ (.tmp 17) = .bool false := ((hρ 17).trans (slotJ [2, 14] (by rw [hsz]; decide) (by kernel_rfl))).trans (hF 2 (by decide))
      have e29 : ρ (.tmp 29) = undef := ((hρ 29).trans (slotJ [2, 14] (by rw [hsz]; decide) (by kernel_rfl))).trans (hF 14 (by decide))
      clear hρ hF hfun sl5 fin
      exact opv_val (by go_simp <;> rfl) ⟨gw_self _, rfl⟩
  · intro vals w1 hG hF
    exact fin vals w1 hG (hF 15 (by decide +kernel))
theorem ri61_reg (Q : Exit → Act → World → Prop) (a0 : Act) (w : World) (q : Nat) (ad : Addr) (N c3 n cL i k : Nat) (x u : ByteArray) (r : Bool) (hq : q < w.heap.size) (hb : ad.block < w.heap.size) (c1 : w.cell? (ad.add (i * 2)) = some (.string x)) (d1 : w.cell? ⟨q, k * 2, none⟩ = some (.string u)) (hi1 : (0 : Int) ≤ (i : Int)) (hi2 : (i : Int) < (n : Int)) (hk1 : (0 : Int) ≤ (k : Int)) (hk2 : (k : Int) < (N : Int)) (hk3 : (k : Int) ≤ 10000) (hr : (!(Op.bytesLess u.toList x.toList || u.toList == x.toList)) = r) (hsz : a0.tmps.size = 50) (sl0 : a0.tmps.getD 0 undef = .slice (some ad) n cL) (sl3 : a0.tmps.getD 3 undef = .slice (some ⟨q, 0, none⟩) N c3) (sl4 : a0.tmps.getD 4 undef = .int .i64 i) (sl5 : a0.tmps.getD 5 undef = .int .i64 ((k : Int) + 1))
    (fin : ∀ (vals : Nat → Value) (w1 : World), Below w.heap.size w w1 → (IsV (.bool r)) (vals 15) w1 → Q .normal (putD vals [15, 16, 17, 18, 19, 20, 21, 22, 23, 24, 25, 26, 27, 28, 29, 30] 0 a0) w1) :
    (Code.region 6 (regIn Try.f18 6) true).wp Try.prog Q a0 w := by
  refine region_by (G := fun w w1 => Below w.heap.size w w1) [IsV (.int .i64 ((k : Int) + 1)),
    IsV (.bool true),
    IsV (.bool true),
    IsV (.slice (some ⟨q, 0, none⟩) N c3),
    IsV (.int .i64 ((k : Int) + 1)),
    IsV (.int .i64 k),
    IsV (.pointer (some ⟨q, k * 2, none⟩)),
    IsV (.pointer (some ⟨q, k * 2, none⟩)),
    IsV (.string u),
    IsV (.slice (some ad) n cL),
    IsV (.int .i64 i),
    IsV (.pointer (some (ad.add (i * 2)))),
    IsV (.pointer (some (ad.add (i * 2)))),
    IsV (.string x),
    IsV (.bool r),
    IsV (.bool r)]
    [15, 16, 17, 18, 19, 20, 21, 22, 23, 24, 25, 26, 27, 28, 29, 30] (by kernel_rfl) (Gw.drew _) Gw.trans (by rw [hsz]; kernel_rfl) (by kernel_rfl) ?_ ?_ ?_
  · intro f hf
    simp only [List.mem_cons, List.not_mem_nil, or_false] at hf
    rcases hf with rfl | rfl | rfl | rfl | rfl | rfl | rfl | rfl | rfl | rfl | rfl | rfl | rfl | rfl | rfl | rfl <;> intro v a b h g <;> first | exact IsV.mono h
  · refine ⟨?_, ?_, ?_, ?_, ?_, ?_, ?_, ?_, ?_, ?_, ?_, ?_, ?_, ?_, ?_, ?_, trivial⟩
    · exact owes_mv 5 (by kernel_rfl) (by kernel_rfl) (by kernel_rfl) sl5 (fun _ => rfl)
    · refine owes_v (Go.Op.binOp Go.BinOp.gtr 3 (Go.Operand.tmp 15) (Go.Operand.const (Go.Value.int Go.IntKind.i64 0)) 3) 4 [0] (by kernel_rfl) (by kernel_rfl) (by kernel_rfl) rfl fun vals w1 ρ hG hF hρ hcst hfun => ?_
      have e15 : ρ (.tmp 15) = .int .i64 ((k : Int) + 1) := ((hρ 15).trans (slotJ [0] (by rw [hsz]; decide) (by kernel_rfl))).trans (hF 0 (by decide))
      have j0 : (0 : Int) < (k : Int) + 1 := by omega
      clear hρ hF hfun sl0 sl3 sl4 sl5 fin
      exact opv_val (by go_simp <;> rfl) ⟨gw_self _, rfl⟩
    · exact owes_mvj 1 16 (by kernel_rfl) (by kernel_rfl) (by kernel_rfl) (by kernel_rfl) (by rw [hsz]; decide) (fun v w h => h)
    · refine owes_vt 2 true (Go.Op.move (Go.Operand.tmp 3)) 35 [] (by kernel_rfl) (by kernel_rfl) (by kernel_rfl) (fun _ _ h => h) (by rw [hsz]; kernel_rfl) (by kernel_rfl) rfl fun vals w1 ρ hG hF hρ hcst hfun => ?_
      have e3 : ρ (.tmp 3) = .slice (some ⟨q, 0, none⟩) N c3 := ((hρ 3).trans (slotO [] (by kernel_rfl))).trans sl3
      clear hρ hF hcst hfun sl0 sl3 sl4 sl5 fin
      exact opv_val (by go_simp <;> rfl) ⟨gw_self _, rfl⟩
    · refine owes_vt 2 true (Go.Op.move (Go.Operand.tmp 5)) 3 [] (by kernel_rfl) (by kernel_rfl) (by kernel_rfl) (fun _ _ h => h) (by rw [hsz]; kernel_rfl) (by kernel_rfl) rfl fun vals w1 ρ hG hF hρ hcst hfun => ?_
      have e5 : ρ (.tmp 5) = .int .i64 ((k : Int) + 1) := ((hρ 5).trans (slotO [] (by kernel_rfl))).trans sl5
      clear hρ hF hcst hfun sl0 sl3 sl4 sl5 fin
      exact opv_val (by go_simp <;> rfl) ⟨gw_self _, rfl⟩
    · refine owes_vt 2 true (Go.Op.binOp Go.BinOp.sub 3 (Go.Operand.tmp 19) (Go.Operand.const (Go.Value.int Go.IntKind.i64 1)) 3) 3 [4] (by kernel_rfl) (by kernel_rfl) (by kernel_rfl) (fun _ _ h => h) (by rw [hsz]; kernel_rfl) (by kernel_rfl) rfl fun vals w1 ρ hG hF hρ hcst hfun => ?_
      have e19 : ρ (.tmp 19) = .int .i64 ((k : Int) + 1) := ((hρ 19).trans (slotJ [4] (by rw [hsz]; decide) (by kernel_rfl))).trans (hF 4 (by decide))
      have kw0 : IntKind.i64.wrap ((k : Int)) = (k : Int) := wrapIn (by omega) (by omega)
      clear hρ hF hfun sl0 sl3 sl4 sl5 fin
      exact opv_val (by go_simp <;> rfl) ⟨gw_self _, rfl⟩
    · refine owes_vt 2 true (Go.Op.indexAddr 35 (Go.Operand.tmp 18) (Go.Operand.tmp 20)) 0 [3, 5] (by kernel_rfl) (by kernel_rfl) (by kernel_rfl) (fun _ _ h => h) (by rw [hsz]; kernel_rfl) (by kernel_rfl) rfl fun vals w1 ρ hG hF hρ hcst hfun => ?_
      have e18 : ρ (.tmp 18) = .slice (some ⟨q, 0, none⟩) N c3 := ((hρ 18).trans (slotJ [3, 5] (by rw [hsz]; decide) (by kernel_rfl))).trans (hF 3 (by decide))
      have e20 : ρ (.tmp 20) = .int .i64 k := ((hρ 20).trans (slotJ [3, 5] (by rw [hsz]; decide) (by kernel_rfl))).trans (hF 5 (by decide))
      clear hρ hF hcst hfun sl0 sl3 sl4 sl5 fin
      exact opv_val (by go_simp <;> rfl) ⟨gw_self _, rfl⟩
    · refine owes_vt 2 true (Go.Op.fieldAddr 42 (Go.Operand.tmp 21) 0) 0 [6] (by kernel_rfl) (by kernel_rfl) (by kernel_rfl) (fun _ _ h => h) (by rw [hsz]; kernel_rfl) (by kernel_rfl) rfl fun vals w1 ρ hG hF hρ hcst hfun => ?_
      have e21 : ρ (.tmp 21) = .pointer (some ⟨q, k * 2, none⟩) := ((hρ 21).trans (slotJ [6] (by rw [hsz]; decide) (by kernel_rfl))).trans (hF 6 (by decide))
      clear hρ hF hcst hfun sl0 sl3 sl4 sl5 fin
      exact opv_val (by go_simp <;> rfl) ⟨gw_self _, rfl⟩
    · refine owes_vt 2 true (Go.Op.load 9 (Go.Operand.tmp 22)) 9 [7] (by kernel_rfl) (by kernel_rfl) (by kernel_rfl) (fun _ _ h => h) (by rw [hsz]; kernel_rfl) (by kernel_rfl) rfl fun vals w1 ρ hG hF hρ hcst hfun => ?_
      have e22 : ρ (.tmp 22) = .pointer (some ⟨q, k * 2, none⟩) := ((hρ 22).trans (slotJ [7] (by rw [hsz]; decide) (by kernel_rfl))).trans (hF 7 (by decide))
      have j1 := (hG.cell (p := ⟨q, k * 2, none⟩) hq).trans d1
      clear hρ hF hcst hfun sl0 sl3 sl4 sl5 fin
      exact opv_val (by go_simp <;> rfl) ⟨gw_self _, rfl⟩
    · refine owes_vt 2 true (Go.Op.move (Go.Operand.tmp 0)) 35 [] (by kernel_rfl) (by kernel_rfl) (by kernel_rfl) (fun _ _ h => h) (by rw [hsz]; kernel_rfl) (by kernel_rfl) rfl fun vals w1 ρ hG hF hρ hcst hfun => ?_
      have e0 : ρ (.tmp 0) = .slice (some ad) n cL := ((hρ 0).trans (slotO [] (by kernel_rfl))).trans sl0
      clear hρ hF hcst hfun sl0 sl3 sl4 sl5 fin
      exact opv_val (by go_simp <;> rfl) ⟨gw_self _, rfl⟩
    · refine owes_vt 2 true (Go.Op.move (Go.Operand.tmp 4)) 3 [] (by kernel_rfl) (by kernel_rfl) (by kernel_rfl) (fun _ _ h => h) (by rw [hsz]; kernel_rfl) (by kernel_rfl) rfl fun vals w1 ρ hG hF hρ hcst hfun => ?_
      have e4 : ρ (.tmp 4) = .int .i64 i := ((hρ 4).trans (slotO [] (by kernel_rfl))).trans sl4
      clear hρ hF hcst hfun sl0 sl3 sl4 sl5 fin
      exact opv_val (by go_simp <;> rfl) ⟨gw_self _, rfl⟩
    · refine owes_vt 2 true (Go.Op.indexAddr 35 (Go.Operand.tmp 24) (Go.Operand.tmp 25)) 0 [9, 10] (by kernel_rfl) (by kernel_rfl) (by kernel_rfl) (fun _ _ h => h) (by rw [hsz]; kernel_rfl) (by kernel_rfl) rfl fun vals w1 ρ hG hF hρ hcst hfun => ?_
      have e24 : ρ (.tmp 24) = .slice (some ad) n cL := ((hρ 24).trans (slotJ [9, 10] (by rw [hsz]; decide) (by kernel_rfl))).trans (hF 9 (by decide))
      have e25 : ρ (.tmp 25) = .int .i64 i := ((hρ 25).trans (slotJ [9, 10] (by rw [hsz]; decide) (by kernel_rfl))).trans (hF 10 (by decide))
      clear hρ hF hcst hfun sl0 sl3 sl4 sl5 fin
      exact opv_val (by go_simp <;> rfl) ⟨gw_self _, rfl⟩
    · refine owes_vt 2 true (Go.Op.fieldAddr 42 (Go.Operand.tmp 26) 0) 0 [11] (by kernel_rfl) (by kernel_rfl) (by kernel_rfl) (fun _ _ h => h) (by rw [hsz]; kernel_rfl) (by kernel_rfl) rfl fun vals w1 ρ hG hF hρ hcst hfun => ?_
      have e26 : ρ (.tmp 26) = .pointer (some (ad.add (i * 2))) := ((hρ 26).trans (slotJ [11] (by rw [hsz]; decide) (by kernel_rfl))).trans (hF 11 (by decide))
      clear hρ hF hcst hfun sl0 sl3 sl4 sl5 fin
      exact opv_val (by go_simp <;> rfl) ⟨gw_self _, rfl⟩
    · refine owes_vt 2 true (Go.Op.load 9 (Go.Operand.tmp 27)) 9 [12] (by kernel_rfl) (by kernel_rfl) (by kernel_rfl) (fun _ _ h => h) (by rw [hsz]; kernel_rfl) (by kernel_rfl) rfl fun vals w1 ρ hG hF hρ hcst hfun => ?_
      have e27 : ρ (.tmp 27) = .pointer (some (ad.add (i * 2))) := ((hρ 27).trans (slotJ [12] (by rw [hsz]; decide) (by kernel_rfl))).trans (hF 12 (by decide))
      have j1 := (hG.cell (p := ad.add (i * 2)) (by rw [add_block]; exact hb)).trans c1
      clear hρ hF hcst hfun sl0 sl3 sl4 sl5 fin
      exact opv_val (by go_simp <;> rfl) ⟨gw_self _, rfl⟩
    · refine owes_vt 2 true (Go.Op.binOp Go.BinOp.gtr 9 (Go.Operand.tmp 23) (Go.Operand.tmp 28) 9) 4 [8, 13] (by kernel_rfl) (by kernel_rfl) (by kernel_rfl) (fun _ _ h => h) (by rw [hsz]; kernel_rfl) (by kernel_rfl) rfl fun vals w1 ρ hG hF hρ hcst hfun => ?_
      have e23 : ρ (.tmp 23) = .string u := ((hρ 23).trans (slotJ [8, 13] (by rw [hsz]; decide) (by kernel_rfl))).trans (hF 8 (by decide))
      have e28 : ρ (.tmp 28) = .string x := ((hρ 28).trans (slotJ [8, 13] (by rw [hsz]; decide) (by kernel_rfl))).trans (hF 13 (by decide))
      have j2 := hr
      clear hρ hF hcst hfun sl0 sl3 sl4 sl5 fin
      exact opv_val (by go_simp <;> rfl) ⟨gw_self _, rfl⟩
    · refine owes_v (Go.Op.pick (Go.Operand.tmp 17) (Go.Operand.tmp 29) (Go.Operand.const (Go.Value.bool false))) 4 [2, 14] (by kernel_rfl) (by kernel_rfl) (by kernel_rfl) rfl fun vals w1 ρ hG hF hρ hcst hfun => ?_
      have e17 : ρ (.tmp 17) = .bool true := ((hρ 17).trans (slotJ [2, 14] (by rw [hsz]; decide) (by kernel_rfl))).trans (hF 2 (by decide))
      have e29 : ρ (.tmp 29) = .bool r := ((hρ 29).trans (slotJ [2, 14] (by rw [hsz]; decide) (by kernel_rfl))).trans (hF 14 (by decide))
      clear hρ hF hfun sl0 sl3 sl4 sl5 fin
      exact opv_val (by go_simp <;> rfl) ⟨gw_self _, rfl⟩
  · intro vals w1 hG hF
    exact fin vals w1 hG (hF 15 (by decide +kernel))
theorem rising_c (w : World) (base : Nat) (A : Option Addr) (c : Nat) (l : Rw) (hr : TR w base (.slice A l.length c) (l.map sR)) (hl : l.length ≤ 5000) :
    Calls Try.prog 18 #[.slice A l.length c] w fun e w' => ∃ v o, e = .returned v ∧ o.Perm l ∧ srt o ∧ TR w' w.heap.size v (o.map sR) ∧ Below w.heap.size w w' := by
  obtain ⟨n, hn⟩ : ∃ n, n = l.length := ⟨_, rfl⟩
  have HR := Lib.hid hr.rtd
  rw [← hn]
  have HN := Lib.hid hn
  have q1 : (n : Int) ≤ 5000 := by omega
  clear hr hl hn
  go_enter Try.func18, Try.ntmps18
  go_wp2_with fail
  go_loopw [3, 4] (fun ov i wr => ∃ (j : Nat) (o : Rw), j ≤ n ∧ i = .int .i64 j ∧ Hid (o.length = j ∧ o.Perm (l.take j) ∧ srt o ∧ TR wr w.heap.size ov (o.map sR)) ∧ Hid (Below w.heap.size w wr)) (fun _ i _ => n - (intOf i).toNat)
  case atStart => exact ⟨0, [], Nat.zero_le _, rfl, Lib.hid ⟨rfl, by rw [List.take_zero], List.Pairwise.nil, TR.nil _ _⟩, Lib.hid (Below.refl _ _)⟩
  case round =>
    obtain ⟨j, o, hj, rfl, hO, hB⟩ := hrel
    obtain ⟨out, hout⟩ : ∃ out, out = o.map sR := ⟨_, rfl⟩
    have hol : out.length = j := by rw [hout, sR_len]; exact hO.out.1
    have hO2 := hO.out.2.2.2
    rw [← hout] at hO2
    obtain ⟨A3, c3, rfl, hc3, hm3⟩ := hO2.slice
    rw [hol] at hc3 ⊢
    by_cases hlt : j < n
    · have p1 : (0 : Int) ≤ (j : Int) := by omega
      have p2 : (j : Int) < (n : Int) := by omega
      have hjl : j < l.length := by rw [← HN.out]; exact hlt
      obtain ⟨ad, rfl, hab, cx, cy⟩ := (HR.out.below hB.out) j (by rw [sR_len]; exact hjl)
      obtain ⟨s, hs⟩ : ∃ s, s = (l[j]).1 := ⟨_, rfl⟩
      obtain ⟨y, hy⟩ : ∃ y, y = (l[j]).2 := ⟨_, rfl⟩
      have htk : l.take (j + 1) = l.take j ++ [(s, y)] := by
        rw [List.take_succ_eq_append_getElem hjl]
        congr 2
        exact Prod.ext hs.symm hy.symm
      have hx0 : (l.map sR)[j]'(by rw [sR_len]; exact hjl) = (strB s, y) := by rw [List.getElem_map, hs, hy]; rfl
      rw [hx0] at cx cy
      obtain ⟨x, hx⟩ : ∃ x, x = strB s := ⟨_, rfl⟩
      rw [← hx] at cx
      dsimp only at cx cy
      have HO := Lib.hid (show TR wr w.heap.size (.slice A3 out.length c3) out from by rw [hol]; rw [hol] at hO2; exact hO2)
      have HT := Lib.hid (And.intro htk (And.intro hout (And.intro hol (And.intro hO.out.2.1 (And.intro hO.out.2.2.1 hx)))))
      have HC := Lib.hid (And.intro cx (And.intro cy hab))
      have HM := Lib.hid (And.intro hc3 hm3)
      have q2 : (j : Int) ≤ 5000 := by omega
      clear hs hy htk hx0 hout hol hO cx cy hab hc3 hm3 hjl hO2 hx
      go_upto_block 2 with fail
      go_cut [5] from 7 to 48 (fun s5 wx => ∃ k : Nat, k ≤ j ∧ s5 = .int .i64 k ∧ Hid ((k = 0 ∨ ∃ h : k - 1 < o.length, 1 ≤ k ∧ ¬ 0 < cmpB (o[k - 1]).1 s) ∧ ∀ t (ht : t < o.length), k ≤ t → 0 < cmpB (o[t]).1 s) ∧ Hid (Below wr.heap.size wr wx))
      case first =>
        obtain ⟨W, hW⟩ : ∃ X, X = wr := ⟨_, rfl⟩
        rw [← hW] at HO HC hB ⊢
        have HWQ := Lib.hid hW
        clear hW
        go_wp2_with fail
        go_loopw [5] (fun kv wz => ∃ k : Nat, k ≤ j ∧ kv = .int .i64 k ∧ Hid (∀ t (ht : t < o.length), k ≤ t → 0 < cmpB (o[t]).1 s) ∧ Hid (Below W.heap.size W wz)) (fun kv _ => (intOf kv).toNat)
        case atStart => exact ⟨j, Nat.le_refl _, rfl, Lib.hid (fun t ht h => by have := HT.out.2.2.1; rw [HT.out.2.1, sR_len] at this; omega), Lib.hid (Below.refl _ _)⟩
        case round =>
          obtain ⟨k, hk, rfl, hG, hBz⟩ := hrel
          cases k with
          | zero =>
            go_wp2_with fail
            refine ri60_reg _ _ wr rfl rfl ?_
            intro vals w7 h7 h30
            unfold IsV at h30
            simp only [putD, Act.put, List.setIfInBounds_toArray, List.set_cons_zero, List.set_cons_succ, h30]
            have HB7 := Lib.hid (hBz.out.trans (h7.mono hBz.out.size))
            clear h30 h7
            go_wp2_with fail
            go_meet
            exact ⟨0, Nat.zero_le _, rfl, Lib.hid ⟨.inl rfl, hG.out⟩, by rw [← HWQ.out]; exact HB7⟩
          | succ k =>
            have hko : k < o.length := by have := HT.out.2.2.1; rw [HT.out.2.1, sR_len] at this; omega
            obtain ⟨q, rfl, _, hq, d1, d2⟩ := (show TR wr w.heap.size (.slice A3 out.length c3) (o.map sR) from by rw [← HT.out.2.1]; exact HO.out.below hBz.out).atR k hko
            obtain ⟨v, hv⟩ : ∃ v, v = (o[k]).1 := ⟨_, rfl⟩
            obtain ⟨u, hu⟩ : ∃ u, u = strB v := ⟨_, rfl⟩
            rw [← hv, ← hu] at d1
            obtain ⟨r, hrr⟩ : ∃ r, r = decide (0 < cmpB v s) := ⟨_, rfl⟩
            have hgt : (!(Op.bytesLess u.toList x.toList || u.toList == x.toList)) = r := by rw [hu, HT.out.2.2.2.2.2, hrr]; exact gt_cmp v s
            have HRR := Lib.hid (And.intro hrr (And.intro hv hko))
            have HGT := Lib.hid hgt
            have HD := Lib.hid (And.intro d1 hq)
            have e1 : ((k + 1 : Nat) : Int) = (k : Int) + 1 := by omega
            rw [e1]
            have hk2 : (k : Int) < (j : Int) := by omega
            clear hu hv d1 d2 hq e1 hrr hgt
            go_wp2_with fail
            refine ri61_reg _ _ wr q ad j c3 n c j k x u r HD.out.2 (Nat.lt_of_lt_of_le HC.out.2.2 hBz.out.size) ((hBz.out.cell (by rw [add_block]; exact HC.out.2.2)).trans HC.out.1) HD.out.1 p1 p2 (by omega) hk2 (by omega) HGT.out rfl rfl rfl rfl rfl ?_
            intro vals w7 h7 h30
            unfold IsV at h30
            simp only [putD, Act.put, List.setIfInBounds_toArray, List.set_cons_zero, List.set_cons_succ, h30]
            have HB7 := Lib.hid (hBz.out.trans (h7.mono hBz.out.size))
            clear h30 h7
            cases r with
            | true =>
              go_wp2_with fail
              go_roundw
              case rel => exact ⟨k, by omega, by go_num, Lib.hid (fun t ht h => by
                rcases (show t = k ∨ k + 1 ≤ t by omega) with rfl | h3
                · have h4 := HRR.out.1
                  rw [eq_comm, decide_eq_true_eq, HRR.out.2.1] at h4
                  exact h4
                · exact hG.out t ht h3), HB7⟩
              case measure => (first | (simp [intOf]; done) | (simp [intOf]; omega))
            | false =>
              go_wp2_with fail
              go_meet
              exact ⟨k + 1, by omega, by go_num, Lib.hid ⟨.inr ⟨HRR.out.2.2, by omega, by
                have h4 := HRR.out.1
                rw [eq_comm, decide_eq_false_iff_not, HRR.out.2.1] at h4
                first | exact h4 | (show cmpB (o[k]).1 s ≤ 0; omega)⟩, hG.out⟩, by rw [← HWQ.out]; exact HB7⟩
      case rest =>
        obtain ⟨k, hk, rfl, hS, hBx⟩ := hcut
        have HOX := Lib.hid (HO.out.below hBx.out)
        have HBX := Lib.hid (hB.out.trans (hBx.out.mono hB.out.size))
        have HCX := Lib.hid (show wc.cell? (ad.add (j * 2)) = some (.string x) ∧ wc.cell? ⟨(ad.add (j * 2)).block, (ad.add (j * 2)).off + 1, none⟩ = some (.int .i64 y) ∧ ad.block < wc.heap.size from ⟨(hBx.out.cell (by rw [add_block]; exact HC.out.2.2)).trans HC.out.1, (hBx.out.cell (p := ⟨(ad.add (j * 2)).block, (ad.add (j * 2)).off + 1, none⟩) (by show (ad.add (j * 2)).block < _; rw [add_block]; exact HC.out.2.2)).trans HC.out.2.1, Nat.lt_of_lt_of_le HC.out.2.2 hBx.out.size⟩)
        have HNEW := Lib.hid (show ∃ o2 : Rw, out.take k ++ [(x, y)] ++ out.drop k = o2.map sR ∧ o2.length = j + 1 ∧ o2.Perm (l.take (j + 1)) ∧ srt o2 from by
          obtain ⟨t1, t2, t3, t4, t5, t6⟩ := HT.out
          have hol : o.length = j := by rw [t2, sR_len] at t3; exact t3
          refine ⟨o.take k ++ [(s, y)] ++ o.drop k, ?_, ?_, ?_, srt_ins t5 (by omega) hS.out.2 hS.out.1⟩
          · rw [t2, List.map_append, List.map_append, ← List.map_take, ← List.map_drop, t6]; rfl
          · rw [List.length_append, List.length_append, List.length_take, List.length_drop]; simp; omega
          · rw [t1]; exact ins_perm.trans (t4.append_right _))
        have HOL := Lib.hid HT.out.2.2.1
        have q3 : (k : Int) ≤ (j : Int) := by omega
        clear hS hBx HO HC HT hB
        go_wp2_with fail
        refine ri8_law _ _ wc A3 (some ad) ad j c3 n c k j w.heap.size out x y rfl (Lib.hid HOL.out.symm) HM.out.1 hk p1 p2 (by have := HOL.out; omega) HOX.out HCX.out.2.2 HCX.out.1 HCX.out.2.1 rfl rfl rfl rfl rfl ?_
        intro v0 v2 v7 v8 w8 hp8 hb8
        simp only [putA, putD, Act.put, List.setIfInBounds_toArray, List.set_cons_zero, List.set_cons_succ]
        have HP8 := Lib.hid hp8
        have HO8 := Lib.hid (HOX.out.below hb8)
        have HB8 := Lib.hid (HBX.out.trans (hb8.mono HBX.out.size))
        have HZ8 := Lib.hid hb8.size
        have HZW := Lib.hid HBX.out.size
        clear hp8 hb8 HOX HBX HCX
        have HFIN := Lib.hid (show ∀ v9 w9, TR w9 wc.heap.size v9 (out.take k ++ [(x, y)] ++ out.drop k) → Below wc.heap.size w8 w9 → ∃ o2 : Rw, Hid (o2.length = j + 1 ∧ o2.Perm (l.take (j + 1)) ∧ srt o2 ∧ TR w9 w.heap.size v9 (o2.map sR)) ∧ Hid (Below w.heap.size w w9) from fun v9 w9 h9 hb9 => by
          obtain ⟨o2, e2, e3, e4, e5⟩ := HNEW.out
          rw [e2] at h9
          exact ⟨o2, Lib.hid ⟨e3, e4, e5, h9.mono HZW.out⟩, Lib.hid (HB8.out.trans (hb9.mono HZW.out))⟩)
        rcases HO8.out.form with ⟨e, h0⟩ | ⟨q, cq, e, hq1, hq2, _⟩
        · injection e with e1 e2 e3
          subst e1
          subst e3
          have hj0 : j = 0 := by have := HOL.out; rw [h0] at this; simpa using this.symm
          have hk0 : k = 0 := by omega
          subst hj0
          subst hk0
          have hd0 : out.drop 0 = [] := by rw [h0]; rfl
          have hd1 : RdT w8 none (out.drop 0) := by rw [hd0]; intro j u hu; cases hu
          have hd2 : 0 = (out.drop 0).length := by rw [hd0]; rfl
          have hd3 : (out.take 0 ++ [(x, y)]).length + (out.drop 0).length ≤ 100000 := by rw [hd0]; simp
          have HDD := Lib.hid (And.intro hd1 (And.intro hd2 hd3))
          clear hd0 hd1 hd2 hd3 h0 e2
          go_wp2_with (at_builtin; refine wp_appT rfl (.tmp 44) (.tmp 47) rfl rfl HP8.out none 0 0 (out.drop 0) rfl HDD.out.2.1 HDD.out.1 HDD.out.2.2 HZ8.out ?_; intro v9 w9 h9 hb9 _ _; have H9 := Lib.hid (HFIN.out v9 w9 h9 hb9); clear h9 hb9)
          go_roundw
          case rel => obtain ⟨o2, g1, g2⟩ := H9.out; exact ⟨0 + 1, o2, by omega, by go_num, g1, g2⟩
          case measure => (first | (simp [intOf]; done) | (simp [intOf]; omega))
        · injection e with e1 e2 e3
          subst e1
          subst e3
          obtain ⟨XA, hXA⟩ : ∃ XA : Option Addr, XA = if c3 = k then some ⟨q, 0, none⟩ else some ⟨q, k * 2, none⟩ := ⟨_, rfl⟩
          have hd1 : RdT w8 XA (out.drop k) := by
            rw [hXA]
            have hr7 : RdT w8 (some ⟨q, 0, none⟩) out := HO8.out.rdp
            by_cases hck : c3 = k
            · have hd : out.drop k = [] := List.drop_eq_nil_of_le (by have := HM.out.1; have := HOL.out; omega)
              rw [hd]
              intro i u hu
              cases hu
            · rw [if_neg hck]
              have h8 := hr7.suf k
              rw [show (0 : Nat) + 2 * k = k * 2 from by omega] at h8
              exact h8
          have hd2 : j - k = (out.drop k).length := by rw [List.length_drop, HOL.out]
          have hd3 : (out.take k ++ [(x, y)]).length + (out.drop k).length ≤ 100000 := by
            rw [List.length_append, List.length_take, List.length_drop]; have := HOL.out; simp; omega
          have HDD := Lib.hid (And.intro hd1 (And.intro hd2 hd3))
          have q7 : (k : Int) ≤ (c3 : Int) := by have := HM.out.1; omega
          clear hd1 hd2 hd3 e2
          by_cases hck : c3 = k
          · rw [if_pos hck] at hXA
            subst hXA
            have hjk : j = k := by have := HM.out.1; omega
            subst hjk
            subst hck
            go_wp2_with (at_builtin; refine wp_appT rfl (.tmp 44) (.tmp 47) rfl rfl HP8.out (some ⟨q, 0, none⟩) 0 0 (out.drop c3) rfl (by have := HDD.out.2.1; omega) HDD.out.1 HDD.out.2.2 HZ8.out ?_; intro v9 w9 h9 hb9 _ _; have H9 := Lib.hid (HFIN.out v9 w9 h9 hb9); clear h9 hb9)
            go_roundw
            case rel => obtain ⟨o2, g1, g2⟩ := H9.out; exact ⟨c3 + 1, o2, by omega, by go_num, g1, g2⟩
            case measure => (first | (simp [intOf]; done) | (simp [intOf]; omega))
          · rw [if_neg hck] at hXA
            subst hXA
            have q8 : (k : Int) < (c3 : Int) := by omega
            go_wp2_with (at_builtin; refine wp_appT rfl (.tmp 44) (.tmp 47) rfl rfl HP8.out (some ⟨q, k * 2, none⟩) (j - k) (c3 - k) (out.drop k) rfl HDD.out.2.1 HDD.out.1 HDD.out.2.2 HZ8.out ?_; intro v9 w9 h9 hb9 _ _; have H9 := Lib.hid (HFIN.out v9 w9 h9 hb9); clear h9 hb9)
            go_roundw
            case rel => obtain ⟨o2, g1, g2⟩ := H9.out; exact ⟨j + 1, o2, by omega, by go_num, g1, g2⟩
            case measure => (first | (simp [intOf]; done) | (simp [intOf]; omega))
    · obtain rfl : j = n := by omega
      have hp := hO.out.2.1
      rw [List.take_of_length_le (by rw [← HN.out]; exact Nat.le_refl _)] at hp
      have HO := Lib.hid (And.intro hp (And.intro hO.out.2.2.1 (show TR wr w.heap.size (.slice A3 j c3) (o.map sR) from by rw [← hout]; rw [hol] at hO2; exact hO2)))
      clear hO2 hp hol hout hO
      go_wp2_with fail
      go_ret
      exact ⟨_, o, rfl, HO.out.1, HO.out.2.1, HO.out.2.2, hB.out⟩
end Go.Proofs.Ytdfhdgdhhgabbaa
