/- obj.padded. Conditions: lengths. -/
import Derived.Test.YtbanbpphadgoiaaObD
namespace Go.Proofs.Ytbanbpphadgoiaa
set_option linter.unusedVariables false
set_option linter.unusedSimpArgs false
open Go.RowKit
def BtT (xs : List (BitVec 8)) (v : Value) (w : World) : Prop := ∃ A c, v = .tuple #[.slice A xs.length c, .int .i64 0] ∧ Rd b8 w w.heap.size A xs
theorem BtT.mono {xs : List (BitVec 8)} {v : Value} {a b : World} (h : BtT xs v a) (g : Below a.heap.size a b) : BtT xs v b := by
  obtain ⟨A, c, e, h⟩ := h
  exact ⟨A, c, e, (h.below g).more g.size⟩
def BtS (xs : List (BitVec 8)) (v : Value) (w : World) : Prop := ∃ A c, v = .slice A xs.length c ∧ Rd b8 w w.heap.size A xs
theorem BtS.mono {xs : List (BitVec 8)} {v : Value} {a b : World} (h : BtS xs v a) (g : Below a.heap.size a b) : BtS xs v b := by
  obtain ⟨A, c, e, h⟩ := h
  exact ⟨A, c, e, (h.below g).more g.size⟩
theorem bytes_k {W : World} {B g : Nat} {v : Value} {ws : List (BitVec 64)} {a n : Nat} {xs : List (BitVec 8)} (hx : bytesM ws a n = xs) (hi : a + n ≤ 8 * ws.length) (hl : ws.length ≤ 100000) (h : MemAt W B g v ws) :
    Calls Try.prog 95 #[.pointer (some ⟨g, 0, none⟩), .int .i64 a, .int .i64 n] W fun e w2 => ∃ u, e = .returned u ∧ Below W.heap.size W w2 ∧ BtT xs u w2 := by
  subst hx
  refine (bytes_in W B g v ws a n hi hl h).mono ?_
  rintro e w2 ⟨A, c, rfl, _, ho, b2⟩
  exact ⟨_, rfl, b2, A, c, rfl, ho.rd⟩
/-- Whether all is 0 behind an object's bytes. -/
def padB (ws : List (BitVec 64)) (J K : Nat) : Bool := (bytesM ws J K).all (· == 0#8)
set_option maxHeartbeats 1000000
set_option maxRecDepth 100000
theorem pad_r (Q : Exit → Act → World → Prop) (a0 : Act) (w : World) (s g H B a Z J K b t e : Nat) (P N : Int) (v : Value) (ws : List (BitVec 64)) (xs : List (BitVec 8)) (hk : Bk w H 76 #[.int .i64 P, .int .i64 N, .bool false, .int .i64 0]) (sp : Hid (SpAt w B s g v ws b t e)) (hz : Hid (sizeH P N false 0 = (Z : Int))) (hx : Hid (bytesM ws J K = xs)) (hr : Hid (J + K ≤ 8 * ws.length)) (hl : Hid (ws.length ≤ 100000)) (q1 : (a : Int) ≤ 100000) (q2 : (Z : Int) ≤ 1000) (q3 : (0 : Int) ≤ (a : Int)) (q4 : (0 : Int) ≤ (Z : Int)) (q5 : ((a : Int) + (Z : Int)) * 8 - (J : Int) = (K : Int)) (q6 : (K : Int) ≤ 1000) (q7 : (0 : Int) ≤ (J : Int)) (q8 : (J : Int) ≤ 1000000) (q9 : (0 : Int) ≤ (K : Int)) (hsz : a0.tmps.size = 48) (sl0 : a0.tmps.getD 0 undef = .pointer (some ⟨s, 0, none⟩)) (sl1 : a0.tmps.getD 1 undef = .int .i64 a) (sl5 : a0.tmps.getD 5 undef = .pointer (some ⟨H, 0, none⟩)) (sl7 : a0.tmps.getD 7 undef = .int .i64 J)
    (fin : ∀ (vals : Nat → Value) (w1 : World), Below w.heap.size w w1 → (BtS xs) (vals 16) w1 → (IsV (.int .i64 0)) (vals 17) w1 → Q .normal (putD vals [22, 23, 24, 25, 26, 27, 28, 29, 30, 31, 32, 33, 34, 21, 35, 36, 8, 9] 0 a0) w1) :
    (Code.region 2 (regIn Try.f92 2) true).wp Try.prog Q a0 w := by
  refine region_by (G := fun w w1 => Below w.heap.size w w1) [IsV (.pointer (some ⟨s, 0, none⟩)),
    IsV (.pointer (some ⟨s, 0, none⟩)),
    IsV (.pointer (some ⟨s, 0, none⟩)),
    IsV (.pointer (some ⟨g, 0, none⟩)),
    IsV (.int .i64 J),
    IsV (.int .i64 a),
    IsV (.agg #[.int .i64 P, .int .i64 N, .bool false, .int .i64 0]),
    IsV (.int .i64 Z),
    IsV (.int .i64 ((a : Int) + (Z : Int))),
    IsV (.int .i64 (((a : Int) + (Z : Int)) * 8)),
    IsV (.int .i64 J),
    IsV (.int .i64 K),
    BtT xs,
    BtT xs,
    BtS xs,
    IsV (.int .i64 0),
    BtS xs,
    IsV (.int .i64 0)]
    [22, 23, 24, 25, 26, 27, 28, 29, 30, 31, 32, 33, 34, 21, 35, 36, 8, 9] (by kernel_rfl) (Gw.drew _) Gw.trans (by rw [hsz]; kernel_rfl) (by kernel_rfl) ?_ ?_ ?_
  · intro f hf
    simp only [List.mem_cons, List.not_mem_nil, or_false] at hf
    rcases hf with rfl | rfl | rfl | rfl | rfl | rfl | rfl | rfl | rfl | rfl | rfl | rfl | rfl | rfl | rfl | rfl | rfl | rfl <;> intro v a b h g <;> first | exact IsV.mono h | exact BtT.mono h g | exact BtS.mono h g
  · refine ⟨?_, ?_, ?_, ?_, ?_, ?_, ?_, ?_, ?_, ?_, ?_, ?_, ?_, ?_, ?_, ?_, ?_, ?_, trivial⟩
    · exact owes_mv 0 (by kernel_rfl) (by kernel_rfl) (by kernel_rfl) sl0 (fun _ => rfl)
    · refine owes_v (Go.Op.nilCheck (Go.Operand.tmp 22)) 0 [0] (by kernel_rfl) (by kernel_rfl) (by kernel_rfl) rfl fun vals w1 ρ hG hF hρ hcst hfun => ?_
      have e22 : ρ (.tmp 22) = .pointer (some ⟨s, 0, none⟩) := ((hρ 22).trans (slotJ [0] (by rw [hsz]; decide) (by kernel_rfl))).trans (hF 0 (by decide))
      clear hρ hF hcst hfun sl0 sl1 sl5 sl7 fin
      exact opv_val (by go_simp <;> rfl) ⟨gw_self _, rfl⟩
    · refine owes_v (Go.Op.fieldAddr 61 (Go.Operand.tmp 23) 0) 0 [1] (by kernel_rfl) (by kernel_rfl) (by kernel_rfl) rfl fun vals w1 ρ hG hF hρ hcst hfun => ?_
      have e23 : ρ (.tmp 23) = .pointer (some ⟨s, 0, none⟩) := ((hρ 23).trans (slotJ [1] (by rw [hsz]; decide) (by kernel_rfl))).trans (hF 1 (by decide))
      clear hρ hF hcst hfun sl0 sl1 sl5 sl7 fin
      exact opv_val (by go_simp <;> rfl) ⟨gw_self _, rfl⟩
    · refine owes_v (Go.Op.load 59 (Go.Operand.tmp 24)) 59 [2] (by kernel_rfl) (by kernel_rfl) (by kernel_rfl) rfl fun vals w1 ρ hG hF hρ hcst hfun => ?_
      have e24 : ρ (.tmp 24) = .pointer (some ⟨s, 0, none⟩) := ((hρ 24).trans (slotJ [2] (by rw [hsz]; decide) (by kernel_rfl))).trans (hF 2 (by decide))
      have k := (sp.out.below hG).four.1
      clear hρ hF hcst hfun sl0 sl1 sl5 sl7 fin
      exact opv_val (by go_simp <;> rfl) ⟨gw_self _, rfl⟩
    · exact owes_mv 7 (by kernel_rfl) (by kernel_rfl) (by kernel_rfl) sl7 (fun _ => rfl)
    · exact owes_mv 1 (by kernel_rfl) (by kernel_rfl) (by kernel_rfl) sl1 (fun _ => rfl)
    · refine owes_v (Go.Op.load 76 (Go.Operand.tmp 5)) 76 [] (by kernel_rfl) (by kernel_rfl) (by kernel_rfl) rfl fun vals w1 ρ hG hF hρ hcst hfun => ?_
      have e5 : ρ (.tmp 5) = .pointer (some ⟨H, 0, none⟩) := ((hρ 5).trans (slotO [] (by kernel_rfl))).trans sl5
      obtain ⟨k1, k2, k3, k4⟩ := (hk.below hG hk.lt).four
      clear hρ hF hcst hfun sl0 sl1 sl5 sl7 fin
      exact opv_val (by go_simp <;> rfl) ⟨gw_self _, rfl⟩
    · refine owes_v (Go.Op.call { callee := Go.Callee.value (Go.Operand.func 54), args := #[Go.Operand.tmp 28], argTypes := #[76] }) 3 [6] (by kernel_rfl) (by kernel_rfl) (by kernel_rfl) rfl fun vals w1 ρ hG hF hρ hcst hfun => ?_
      have e28 : ρ (.tmp 28) = .agg #[.int .i64 P, .int .i64 N, .bool false, .int .i64 0] := ((hρ 28).trans (slotJ [6] (by rw [hsz]; decide) (by kernel_rfl))).trans (hF 6 (by decide))
      have kz := size_c P N false 0 w1
      rw [hz.out] at kz
      clear hρ hF hcst sl0 sl1 sl5 sl7 fin
      exact opv_enter (by go_simp <;> rfl) (of_rp kz)
    · refine owes_v (Go.Op.binOp Go.BinOp.add 3 (Go.Operand.tmp 27) (Go.Operand.tmp 29) 3) 3 [5, 7] (by kernel_rfl) (by kernel_rfl) (by kernel_rfl) rfl fun vals w1 ρ hG hF hρ hcst hfun => ?_
      have e27 : ρ (.tmp 27) = .int .i64 a := ((hρ 27).trans (slotJ [5, 7] (by rw [hsz]; decide) (by kernel_rfl))).trans (hF 5 (by decide))
      have e29 : ρ (.tmp 29) = .int .i64 Z := ((hρ 29).trans (slotJ [5, 7] (by rw [hsz]; decide) (by kernel_rfl))).trans (hF 7 (by decide))
      have kw0 : IntKind.i64.wrap (((a : Int) + (Z : Int))) = ((a : Int) + (Z : Int)) := wrapIn (by omega) (by omega)
      clear hρ hF hcst hfun sl0 sl1 sl5 sl7 fin
      exact opv_val (by go_simp <;> rfl) ⟨gw_self _, rfl⟩
    · refine owes_v (Go.Op.binOp Go.BinOp.mul 3 (Go.Operand.tmp 30) (Go.Operand.const (Go.Value.int Go.IntKind.i64 8)) 3) 3 [8] (by kernel_rfl) (by kernel_rfl) (by kernel_rfl) rfl fun vals w1 ρ hG hF hρ hcst hfun => ?_
      have e30 : ρ (.tmp 30) = .int .i64 ((a : Int) + (Z : Int)) := ((hρ 30).trans (slotJ [8] (by rw [hsz]; decide) (by kernel_rfl))).trans (hF 8 (by decide))
      have kw0 : IntKind.i64.wrap ((((a : Int) + (Z : Int)) * 8)) = (((a : Int) + (Z : Int)) * 8) := wrapIn (by omega) (by omega)
      clear hρ hF hfun sl0 sl1 sl5 sl7 fin
      exact opv_val (by go_simp <;> rfl) ⟨gw_self _, rfl⟩
    · exact owes_mv 7 (by kernel_rfl) (by kernel_rfl) (by kernel_rfl) sl7 (fun _ => rfl)
    · refine owes_v (Go.Op.binOp Go.BinOp.sub 3 (Go.Operand.tmp 31) (Go.Operand.tmp 32) 3) 3 [9, 10] (by kernel_rfl) (by kernel_rfl) (by kernel_rfl) rfl fun vals w1 ρ hG hF hρ hcst hfun => ?_
      have e31 : ρ (.tmp 31) = .int .i64 (((a : Int) + (Z : Int)) * 8) := ((hρ 31).trans (slotJ [9, 10] (by rw [hsz]; decide) (by kernel_rfl))).trans (hF 9 (by decide))
      have e32 : ρ (.tmp 32) = .int .i64 J := ((hρ 32).trans (slotJ [9, 10] (by rw [hsz]; decide) (by kernel_rfl))).trans (hF 10 (by decide))
      have kw0 : IntKind.i64.wrap ((K : Int)) = (K : Int) := wrapIn (by omega) (by omega)
      clear hρ hF hcst hfun sl0 sl1 sl5 sl7 fin
      exact opv_val (by go_simp <;> rfl) ⟨gw_self _, rfl⟩
    · refine owes_v (Go.Op.call { callee := Go.Callee.value (Go.Operand.func 95), args := #[Go.Operand.tmp 25, Go.Operand.tmp 26, Go.Operand.tmp 33], argTypes := #[59, 3, 3] }) 150 [3, 4, 11] (by kernel_rfl) (by kernel_rfl) (by kernel_rfl) rfl fun vals w1 ρ hG hF hρ hcst hfun => ?_
      have e25 : ρ (.tmp 25) = .pointer (some ⟨g, 0, none⟩) := ((hρ 25).trans (slotJ [3, 4, 11] (by rw [hsz]; decide) (by kernel_rfl))).trans (hF 3 (by decide))
      have e26 : ρ (.tmp 26) = .int .i64 J := ((hρ 26).trans (slotJ [3, 4, 11] (by rw [hsz]; decide) (by kernel_rfl))).trans (hF 4 (by decide))
      have e33 : ρ (.tmp 33) = .int .i64 K := ((hρ 33).trans (slotJ [3, 4, 11] (by rw [hsz]; decide) (by kernel_rfl))).trans (hF 11 (by decide))
      clear hρ hF hcst sl0 sl1 sl5 sl7 fin
      exact opv_enter (by go_simp <;> rfl) (bytes_k hx.out hr.out hl.out (sp.out.below hG).mem)
    · exact owes_mvj 12 34 (by kernel_rfl) (by kernel_rfl) (by kernel_rfl) (by kernel_rfl) (by rw [hsz]; decide) (fun v w h => h)
    · refine owes_v (Go.Op.extract (Go.Operand.tmp 21) 0) 44 [13] (by kernel_rfl) (by kernel_rfl) (by kernel_rfl) rfl fun vals w1 ρ hG hF hρ hcst hfun => ?_
      have f21 : (BtT xs) (vals 13) w1 := hF 13 (by decide)
      have e21 : ρ (.tmp 21) = vals 13 := (hρ 21).trans (slotJ [13] (by rw [hsz]; decide) (by kernel_rfl))
      obtain ⟨A, c, hx0, hrd⟩ := f21
      rw [hx0] at e21
      clear hρ hF hcst hfun sl0 sl1 sl5 sl7 fin
      exact opv_val (by go_simp <;> rfl) ⟨gw_self _, ⟨A, c, rfl, hrd⟩⟩
    · refine owes_v (Go.Op.extract (Go.Operand.tmp 21) 1) 32 [13] (by kernel_rfl) (by kernel_rfl) (by kernel_rfl) rfl fun vals w1 ρ hG hF hρ hcst hfun => ?_
      have f21 : (BtT xs) (vals 13) w1 := hF 13 (by decide)
      have e21 : ρ (.tmp 21) = vals 13 := (hρ 21).trans (slotJ [13] (by rw [hsz]; decide) (by kernel_rfl))
      obtain ⟨A, c, hx0, hrd⟩ := f21
      rw [hx0] at e21
      clear hρ hF hcst hfun sl0 sl1 sl5 sl7 fin
      exact opv_val (by go_simp <;> rfl) ⟨gw_self _, rfl⟩
    · exact owes_mvj 14 35 (by kernel_rfl) (by kernel_rfl) (by kernel_rfl) (by kernel_rfl) (by rw [hsz]; decide) (fun v w h => h)
    · exact owes_mvj 15 36 (by kernel_rfl) (by kernel_rfl) (by kernel_rfl) (by kernel_rfl) (by rw [hsz]; decide) (fun v w h => h)
  · intro vals w1 hG hF
    exact fin vals w1 hG (hF 16 (by decide +kernel)) (hF 17 (by decide +kernel))
theorem padded_c (w : World) (B s g : Nat) (v : Value) (ws : List (BitVec 64)) (b t e : Nat) (p : SpAt w B s g v ws b t e) (hl : ws.length ≤ 100000) (a : Nat) (h2 : a < t) (hg : goodX (ws.getD a 0#64) (t - a) = true) :
    Calls Try.prog 92 #[.pointer (some ⟨s, 0, none⟩), .int .i64 a, .agg #[.int .i64 (P0 (ws.getD a 0#64) : Int), .int .i64 (B0 (ws.getD a 0#64) : Int), .bool false, .int .i64 0]] w (RetP (.bool (padB ws (8 * (a + 1 + P0 (ws.getD a 0#64)) + B0 (ws.getD a 0#64)) (8 * (a + szX (ws.getD a 0#64)) - (8 * (a + 1 + P0 (ws.getD a 0#64)) + B0 (ws.getD a 0#64))))) w) := by
  obtain ⟨_, hP, hN, hsz, hsh, hroom⟩ := head_of hg
  obtain ⟨P, hP'⟩ : ∃ P, P = P0 (ws.getD a 0#64) := ⟨_, rfl⟩
  obtain ⟨N, hN'⟩ : ∃ P, P = B0 (ws.getD a 0#64) := ⟨_, rfl⟩
  obtain ⟨Z, hZ'⟩ : ∃ P, P = szX (ws.getD a 0#64) := ⟨_, rfl⟩
  rw [← hP'] at hP
  rw [← hN'] at hN
  rw [← hP', ← hN', ← hZ'] at hsz hsh
  rw [← hZ'] at hroom
  rw [← hP', ← hN', ← hZ']
  have htw : t ≤ ws.length := Nat.le_trans p.te p.el
  obtain ⟨J, hJ⟩ : ∃ J, J = 8 * (a + 1 + P) + N := ⟨_, rfl⟩
  obtain ⟨K, hK⟩ : ∃ K, K = 8 * (a + Z) - J := ⟨_, rfl⟩
  rw [← hJ, ← hK]
  unfold padB
  obtain ⟨xs, hxs⟩ : ∃ xs, bytesM ws J K = xs := ⟨_, rfl⟩
  rw [hxs]
  have hxl : xs.length = K := by rw [← hxs]; simp [bytesM]
  obtain ⟨R, hR⟩ : ∃ R, R = xs.all (· == 0#8) := ⟨_, rfl⟩
  rw [← hR]
  have HRR := Lib.hid hR
  clear hR
  have q0 : ((a : Int) + 1 + (P : Int)) * 8 + (N : Int) = (J : Int) := by omega
  have HQ := Lib.hid (show (a : Int) ≤ 100000 ∧ (Z : Int) ≤ 1000 ∧ ((a : Int) + (Z : Int)) * 8 - (J : Int) = (K : Int) ∧ (K : Int) ≤ 1000 ∧ (J : Int) ≤ 1000000 ∧ J + K ≤ 8 * ws.length from by omega)
  have HX := Lib.hid hxs
  have HS := Lib.hid hsh
  have HL := Lib.hid hl
  have HXl := Lib.hid hxl
  have HP := Lib.hid p
  have q1 : (a : Int) ≤ 100000 := by omega
  have q2 : (P : Int) ≤ 64 := by omega
  have q3 : (N : Int) ≤ 1024 := by omega
  have q4 : (0 : Int) ≤ (a : Int) := by omega
  have q5 : (0 : Int) ≤ (P : Int) := by omega
  have q6 : (0 : Int) ≤ (N : Int) := by omega
  have HQ0 := Lib.hid q0
  clear p hl h2 hg hP hN hsz hsh hroom hP' hN' hZ' htw hJ hK hxs hxl q0
  go_enter Try.func92, Try.ntmps92
  go_wp2_with fail
  rw [HQ0.out]
  obtain ⟨w1, hw1⟩ : ∃ w1, w1 = w.alloc (.cells #[.int .i64 P, .int .i64 N, .bool false, .int .i64 0] 76) := ⟨_, rfl⟩
  have hb1 : Below w.heap.size w w1 := by rw [hw1]; exact Gw.alloc w _
  have hk1 : Bk w1 w.heap.size 76 #[.int .i64 P, .int .i64 N, .bool false, .int .i64 0] := by rw [hw1]; exact Bk.new w _ _
  rw [← hw1]
  have HB1 := Lib.hid hb1
  refine pad_r _ _ _ s g w.heap.size B a Z J K b t e P N v ws xs hk1 (Lib.hid (HP.out.below hb1)) HS HX (Lib.hid HQ.out.2.2.2.2.2) HL HQ.out.1 HQ.out.2.1 (Int.natCast_nonneg _) (Int.natCast_nonneg _) HQ.out.2.2.1 HQ.out.2.2.2.1 (Int.natCast_nonneg _) HQ.out.2.2.2.2.1 (Int.natCast_nonneg _) rfl rfl rfl rfl rfl ?_
  intro vals w2 hG h8 h9
  obtain ⟨A, c, e8, hrd⟩ := h8
  unfold IsV at h9
  simp only [putD, Act.put, List.setIfInBounds_toArray, List.set_cons_zero, List.set_cons_succ, e8, h9]
  rw [HXl.out]
  have HB2 := Lib.hid (HB1.out.trans (hG.mono HB1.out.size))
  have HR := Lib.hid hrd
  have qK : (K : Int) ≤ 1000 := HQ.out.2.2.2.1
  clear hG e8 h9 hrd hk1 hw1 hb1
  go_wp2_with fail
  go_loopw [41, 11] (fun i y W => ∃ k : Nat, i = .int .i64 k ∧ k ≤ K ∧ Hid ((xs.take k).all (· == 0#8) = true) ∧ W = w2) (fun i _ _ => K - (Go.RowKit.intOf i).toNat)
  case atStart => exact ⟨0, rfl, Nat.zero_le _, Lib.hid rfl, rfl⟩
  case round =>
    obtain ⟨k, rfl, hk, hz, rfl⟩ := hrel
    by_cases hlt : k < K
    · have hkx : k < xs.length := by rw [HXl.out]; exact hlt
      obtain ⟨y, hy⟩ : ∃ y, y = xs[k] := ⟨_, rfl⟩
      obtain ⟨ad, rfl, _, hc⟩ := HR.out k hkx
      rw [← hy] at hc
      unfold b8 at hc
      have p1 : (0 : Int) ≤ (k : Int) := by omega
      have p2 : (k : Int) < (K : Int) := by omega
      by_cases hy0 : y = 0#8
      · have hU : U8 y = 0 := by rw [hy0]; decide +kernel
        rw [hU] at hc
        have HZ := Lib.hid (show (xs.take (k + 1)).all (· == 0#8) = true from by
          rw [List.take_succ_eq_append_getElem hkx, List.all_append, hz.out, ← hy, hy0]; rfl)
        clear hy hU hy0 hkx
        go_wp2_with fail
        clear hc
        go_roundw
        case rel => first | exact ⟨k + 1, by go_num, by omega, HZ, rfl⟩ | exact ⟨k + 1, by go_num, by omega, HZ, trivial⟩ | exact ⟨k + 1, by go_num, by omega, HZ⟩
        case measure => simp [Go.RowKit.intOf]; omega
      · have hU1 : (U8 y == 0) = false := by
          have : U8 y ≠ 0 := fun e => hy0 (by
            unfold U8 at e
            exact BitVec.eq_of_toNat_eq (by simpa using e))
          simpa using this
        have hU2 : (U8 y != 0) = true := by unfold bne; rw [hU1]; rfl
        have hRf : R = false := by
          rw [HRR.out]
          cases h : xs.all (· == 0#8) with
          | false => rfl
          | true =>
            have := List.all_eq_true.1 h y (by rw [hy]; exact List.getElem_mem _)
            exact absurd (by simpa using this) hy0
        subst hRf
        clear hy hy0 hkx
        go_wp2_with fail
        go_ret
        exact ⟨rfl, HB2.out⟩
    · have hkK : k = K := by omega
      have hRt : R = true := by
        rw [HRR.out, ← hz.out, hkK, List.take_of_length_le (by rw [HXl.out]; exact Nat.le_refl _)]
      subst hRt
      clear hz hkK
      go_wp2_with fail
      go_ret
      exact ⟨rfl, HB2.out⟩
end Go.Proofs.Ytbanbpphadgoiaa
