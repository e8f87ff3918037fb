/- Texts joined: ObE ObF CyA RegL RegG RegH CyB CrcA. -/
import Derived.Test.YtbanbpphadgoiaaObD
import Derived.Test.YtbanbpphadgoiaaRegT
import Derived.Test.YtbanbpphadgoiaaHdK
import Derived.Laws.Rows
import Derived.Laws.Tables
import Derived.Test.YtbanbpphadgoiaaBitsB
import Derived.Test.YtbanbpphadgoiaaBel
import Derived.LoopTactic
/- obj.padded. Conditions: lengths. -/
namespace Go.Proofs.Ytbanbpphadgoiaa
set_option linter.unusedVariables false
set_option linter.unusedSimpArgs false
open Go.RowKit
def BtT (xs : List (BitVec 8)) (v : Value) (w : World) : Prop := ∃ A c, v = .tuple #[.slice A xs.length c, .int .i64 0] ∧ Rd b8 w w.heap.size A xs
theorem BtT.mono {xs : List (BitVec 8)} {v : Value} {a b : World} (h : BtT xs v a) (g : Below a.heap.size a b) : BtT xs v b := by
  obtain ⟨A, c, e, h⟩ := h
  exact ⟨A, c, e, (h.below g).more g.size⟩
def BtS (xs : List (BitVec 8)) (v : Value) (w : World) : Prop := ∃ A c, v = .slice A xs.length c ∧ Rd b8 w w.heap.size A xs
theorem BtS.mono {xs : List (BitVec 8)} {v : Value} {a b : World} (h : BtS xs v a) (g : Below a.heap.size a b) : BtS xs v b := by
  obtain ⟨A, c, e, h⟩ := h
  exact ⟨A, c, e, (h.below g).more g.size⟩
theorem bytes_k {W : World} {B g : Nat} {v : Value} {ws : List (BitVec 64)} {a n : Nat} {xs : List (BitVec 8)} (hx : bytesM ws a n = xs) (hi : a + n ≤ 8 * ws.length) (hl : ws.length ≤ 100000) (h : MemAt W B g v ws) :
    Calls Try.prog 95 #[.pointer (some ⟨g, 0, none⟩), .int .i64 a, .int .i64 n] W fun e w2 => ∃ u, e = .returned u ∧ Below W.heap.size W w2 ∧ BtT xs u w2 := by
  subst hx
  refine (bytes_in W B g v ws a n hi hl h).mono ?_
  rintro e w2 ⟨A, c, rfl, _, ho, b2⟩
  exact ⟨_, rfl, b2, A, c, rfl, ho.rd⟩
/-- Whether all is 0 behind an object's bytes. -/
def padB (ws : List (BitVec 64)) (J K : Nat) : Bool := (bytesM ws J K).all (· == 0#8)
set_option maxHeartbeats 1000000
set_option maxRecDepth 100000
theorem pad_r (Q : Exit → Act → World → Prop) (a0 : Act) (w : World) (s g H B a Z J K b t e : Nat) (P N : Int) (v : Value) (ws : List (BitVec 64)) (xs : List (BitVec 8)) (hk : Bk w H 76 #[.int .i64 P, .int .i64 N, .bool false, .int .i64 0]) (sp : Hid (SpAt w B s g v ws b t e)) (hz : Hid (sizeH P N false 0 = (Z : Int))) (hx : Hid (bytesM ws J K = xs)) (hr : Hid (J + K ≤ 8 * ws.length)) (hl : Hid (ws.length ≤ 100000)) (q1 : (a : Int) ≤ 100000) (q2 : (Z : Int) ≤ 1000) (q3 : (0 : Int) ≤ (a : Int)) (q4 : (0 : Int) ≤ (Z : Int)) (q5 : ((a : Int) + (Z : Int)) * 8 - (J : Int) = (K : Int)) (q6 : (K : Int) ≤ 1000) (q7 : (0 : Int) ≤ (J : Int)) (q8 : (J : Int) ≤ 1000000) (q9 : (0 : Int) ≤ (K : Int)) (hsz : a0.tmps.size = 48) (sl0 : a0.tmps.getD 0 undef = .pointer (some ⟨s, 0, none⟩)) (sl1 : a0.tmps.getD 1 undef = .int .i64 a) (sl5 : a0.tmps.getD 5 undef = .pointer (some ⟨H, 0, none⟩)) (sl7 : a0.tmps.getD 7 undef = .int .i64 J)
    (fin : ∀ (vals : Nat → Value) (w1 : World), Below w.heap.size w w1 → (BtS xs) (vals 16) w1 → (IsV (.int .i64 0)) (vals 17) w1 → Q .normal (putD vals [22, 23, 24, 25, 26, 27, 28, 29, 30, 31, 32, 33, 34, 21, 35, 36, 8, 9] 0 a0) w1) :
    (Code.region 2 (regIn Try.f92 2) true).wp Try.prog Q a0 w := by
  refine region_by (G := fun w w1 => Below w.heap.size w w1) [IsV (.pointer (some ⟨s, 0, none⟩)),
    IsV (.pointer (some ⟨s, 0, none⟩)),
    IsV (.pointer (some ⟨s, 0, none⟩)),
    IsV (.pointer (some ⟨g, 0, none⟩)),
    IsV (.int .i64 J),
    IsV (.int .i64 a),
    IsV (.agg #[.int .i64 P, .int .i64 N, .bool false, .int .i64 0]),
    IsV (.int .i64 Z),
    IsV (.int .i64 ((a : Int) + (Z : Int))),
    IsV (.int .i64 (((a : Int) + (Z : Int)) * 8)),
    IsV (.int .i64 J),
    IsV (.int .i64 K),
    BtT xs,
    BtT xs,
    BtS xs,
    IsV (.int .i64 0),
    BtS xs,
    IsV (.int .i64 0)]
    [22, 23, 24, 25, 26, 27, 28, 29, 30, 31, 32, 33, 34, 21, 35, 36, 8, 9] (by kernel_rfl) (Gw.drew _) Gw.trans (by rw [hsz]; kernel_rfl) (by kernel_rfl) ?_ ?_ ?_
  · intro f hf
    simp only [List.mem_cons, List.not_mem_nil, or_false] at hf
    rcases hf with rfl | rfl | rfl | rfl | rfl | rfl | rfl | rfl | rfl | rfl | rfl | rfl | rfl | rfl | rfl | rfl | rfl | rfl <;> intro v a b h g <;> first | exact IsV.mono h | exact BtT.mono h g | exact BtS.mono h g
  · refine ⟨?_, ?_, ?_, ?_, ?_, ?_, ?_, ?_, ?_, ?_, ?_, ?_, ?_, ?_, ?_, ?_, ?_, ?_, trivial⟩
    · exact owes_mv 0 (by kernel_rfl) (by kernel_rfl) (by kernel_rfl) sl0 (fun _ => rfl)
    · refine owes_v (Go.Op.nilCheck (Go.Operand.tmp 22)) 0 [0] (by kernel_rfl) (by kernel_rfl) (by kernel_rfl) rfl fun vals w1 ρ hG hF hρ hcst hfun => ?_
      have e22 : ρ (.tmp 22) = .pointer (some ⟨s, 0, none⟩) := ((hρ 22).trans (slotJ [0] (by rw [hsz]; decide) (by kernel_rfl))).trans (hF 0 (by decide))
      clear hρ hF hcst hfun sl0 sl1 sl5 sl7 fin
      exact opv_val (by go_simp <;> rfl) ⟨gw_self _, rfl⟩
    · refine owes_v (Go.Op.fieldAddr 61 (Go.Operand.tmp 23) 0) 0 [1] (by kernel_rfl) (by kernel_rfl) (by kernel_rfl) rfl fun vals w1 ρ hG hF hρ hcst hfun => ?_
      have e23 : ρ (.tmp 23) = .pointer (some ⟨s, 0, none⟩) := ((hρ 23).trans (slotJ [1] (by rw [hsz]; decide) (by kernel_rfl))).trans (hF 1 (by decide))
      clear hρ hF hcst hfun sl0 sl1 sl5 sl7 fin
      exact opv_val (by go_simp <;> rfl) ⟨gw_self _, rfl⟩
    · refine owes_v (Go.Op.load 59 (Go.Operand.tmp 24)) 59 [2] (by kernel_rfl) (by kernel_rfl) (by kernel_rfl) rfl fun vals w1 ρ hG hF hρ hcst hfun => ?_
      have e24 : ρ (.tmp 24) = .pointer (some ⟨s, 0, none⟩) := ((hρ 24).trans (slotJ [2] (by rw [hsz]; decide) (by kernel_rfl))).trans (hF 2 (by decide))
      have k := (sp.out.below hG).four.1
      clear hρ hF hcst hfun sl0 sl1 sl5 sl7 fin
      exact opv_val (by go_simp <;> rfl) ⟨gw_self _, rfl⟩
    · exact owes_mv 7 (by kernel_rfl) (by kernel_rfl) (by kernel_rfl) sl7 (fun _ => rfl)
    · exact owes_mv 1 (by kernel_rfl) (by kernel_rfl) (by kernel_rfl) sl1 (fun _ => rfl)
    · refine owes_v (Go.Op.load 76 (Go.Operand.tmp 5)) 76 [] (by kernel_rfl) (by kernel_rfl) (by kernel_rfl) rfl fun vals w1 ρ hG hF hρ hcst hfun => ?_
      have e5 : ρ (.tmp 5) = .pointer (some ⟨H, 0, none⟩) := ((hρ 5).trans (slotO [] (by kernel_rfl))).trans sl5
      obtain ⟨k1, k2, k3, k4⟩ := (hk.below hG hk.lt).four
      clear hρ hF hcst hfun sl0 sl1 sl5 sl7 fin
      exact opv_val (by go_simp <;> rfl) ⟨gw_self _, rfl⟩
    · refine owes_v (Go.Op.call { callee := Go.Callee.value (Go.Operand.func 54), args := #[Go.Operand.tmp 28], argTypes := #[76] }) 3 [6] (by kernel_rfl) (by kernel_rfl) (by kernel_rfl) rfl fun vals w1 ρ hG hF hρ hcst hfun => ?_
      have e28 : ρ (.tmp 28) = .agg #[.int .i64 P, .int .i64 N, .bool false, .int .i64 0] := ((hρ 28).trans (slotJ [6] (by rw [hsz]; decide) (by kernel_rfl))).trans (hF 6 (by decide))
      have kz := size_c P N false 0 w1
      rw [hz.out] at kz
      clear hρ hF hcst sl0 sl1 sl5 sl7 fin
      exact opv_enter (by go_simp <;> rfl) (of_rp kz)
    · refine owes_v (Go.Op.binOp Go.BinOp.add 3 (Go.Operand.tmp 27) (Go.Operand.tmp 29) 3) 3 [5, 7] (by kernel_rfl) (by kernel_rfl) (by kernel_rfl) rfl fun vals w1 ρ hG hF hρ hcst hfun => ?_
      have e27 : ρ (.tmp 27) = .int .i64 a := ((hρ 27).trans (slotJ [5, 7] (by rw [hsz]; decide) (by kernel_rfl))).trans (hF 5 (by decide))
      have e29 : ρ (.tmp 29) = .int .i64 Z := ((hρ 29).trans (slotJ [5, 7] (by rw [hsz]; decide) (by kernel_rfl))).trans (hF 7 (by decide))
      have kw0 : IntKind.i64.wrap (((a : Int) + (Z : Int))) = ((a : Int) + (Z : Int)) := wrapIn (by omega) (by omega)
      clear hρ hF hcst hfun sl0 sl1 sl5 sl7 fin
      exact opv_val (by go_simp <;> rfl) ⟨gw_self _, rfl⟩
    · refine owes_v (Go.Op.binOp Go.BinOp.mul 3 (Go.Operand.tmp 30) (Go.Operand.const (Go.Value.int Go.IntKind.i64 8)) 3) 3 [8] (by kernel_rfl) (by kernel_rfl) (by kernel_rfl) rfl fun vals w1 ρ hG hF hρ hcst hfun => ?_
      have e30 : ρ (.tmp 30) = .int .i64 ((a : Int) + (Z : Int)) := ((hρ 30).trans (slotJ [8] (by rw [hsz]; decide) (by kernel_rfl))).trans (hF 8 (by decide))
      have kw0 : IntKind.i64.wrap ((((a : Int) + (Z : Int)) * 8)) = (((a : Int) + (Z : Int)) * 8) := wrapIn (by omega) (by omega)
      clear hρ hF hfun sl0 sl1 sl5 sl7 fin
      exact opv_val (by go_simp <;> rfl) ⟨gw_self _, rfl⟩
    · exact owes_mv 7 (by kernel_rfl) (by kernel_rfl) (by kernel_rfl) sl7 (fun _ => rfl)
    · refine owes_v (Go.Op.binOp Go.BinOp.sub 3 (Go.Operand.tmp 31) (Go.Operand.tmp 32) 3) 3 [9, 10] (by kernel_rfl) (by kernel_rfl) (by kernel_rfl) rfl fun vals w1 ρ hG hF hρ hcst hfun => ?_
      have e31 : ρ (.tmp 31) = .int .i64 (((a : Int) + (Z : Int)) * 8) := ((hρ 31).trans (slotJ [9, 10] (by rw [hsz]; decide) (by kernel_rfl))).trans (hF 9 (by decide))
      have e32 : ρ (.tmp 32) = .int .i64 J := ((hρ 32).trans (slotJ [9, 10] (by rw [hsz]; decide) (by kernel_rfl))).trans (hF 10 (by decide))
      have kw0 : IntKind.i64.wrap ((K : Int)) = (K : Int) := wrapIn (by omega) (by omega)
      clear hρ hF hcst hfun sl0 sl1 sl5 sl7 fin
      exact opv_val (by go_simp <;> rfl) ⟨gw_self _, rfl⟩
    · refine owes_v (Go.Op.call { callee := Go.Callee.value (Go.Operand.func 95), args := #[Go.Operand.tmp 25, Go.Operand.tmp 26, Go.Operand.tmp 33], argTypes := #[59, 3, 3] }) 150 [3, 4, 11] (by kernel_rfl) (by kernel_rfl) (by kernel_rfl) rfl fun vals w1 ρ hG hF hρ hcst hfun => ?_
      have e25 : ρ (.tmp 25) = .pointer (some ⟨g, 0, none⟩) := ((hρ 25).trans (slotJ [3, 4, 11] (by rw [hsz]; decide) (by kernel_rfl))).trans (hF 3 (by decide))
      have e26 : ρ (.tmp 26) = .int .i64 J := ((hρ 26).trans (slotJ [3, 4, 11] (by rw [hsz]; decide) (by kernel_rfl))).trans (hF 4 (by decide))
      have e33 : ρ (.tmp 33) = .int .i64 K := ((hρ 33).trans (slotJ [3, 4, 11] (by rw [hsz]; decide) (by kernel_rfl))).trans (hF 11 (by decide))
      clear hρ hF hcst sl0 sl1 sl5 sl7 fin
      exact opv_enter (by go_simp <;> rfl) (bytes_k hx.out hr.out hl.out (sp.out.below hG).mem)
    · exact owes_mvj 12 34 (by kernel_rfl) (by kernel_rfl) (by kernel_rfl) (by kernel_rfl) (by rw [hsz]; decide) (fun v w h => h)
    · refine owes_v (Go.Op.extract (Go.Operand.tmp 21) 0) 44 [13] (by kernel_rfl) (by kernel_rfl) (by kernel_rfl) rfl fun vals w1 ρ hG hF hρ hcst hfun => ?_
      have f21 : (BtT xs) (vals 13) w1 := hF 13 (by decide)
      have e21 : ρ (.tmp 21) = vals 13 := (hρ 21).trans (slotJ [13] (by rw [hsz]; decide) (by kernel_rfl))
      obtain ⟨A, c, hx0, hrd⟩ := f21
      rw [hx0] at e21
      clear hρ hF hcst hfun sl0 sl1 sl5 sl7 fin
      exact opv_val (by go_simp <;> rfl) ⟨gw_self _, ⟨A, c, rfl, hrd⟩⟩
    · refine owes_v (Go.Op.extract (Go.Operand.tmp 21) 1) 32 [13] (by kernel_rfl) (by kernel_rfl) (by kernel_rfl) rfl fun vals w1 ρ hG hF hρ hcst hfun => ?_
      have f21 : (BtT xs) (vals 13) w1 := hF 13 (by decide)
      have e21 : ρ (.tmp 21) = vals 13 := (hρ 21).trans (slotJ [13] (by rw [hsz]; decide) (by kernel_rfl))
      obtain ⟨A, c, hx0, hrd⟩ := f21
      rw [hx0] at e21
      clear hρ hF hcst hfun sl0 sl1 sl5 sl7 fin
      exact opv_val (by go_simp <;> rfl) ⟨gw_self _, rfl⟩
    · exact owes_mvj 14 35 (by kernel_rfl) (by kernel_rfl) (by kernel_rfl) (by kernel_rfl) (by rw [hsz]; decide) (fun v w h => h)
    · exact owes_mvj 15 36 (by kernel_rfl) (by kernel_rfl) (by kernel_rfl) (by kernel_rfl) (by rw [hsz]; decide) (fun v w h => h)
  · intro vals w1 hG hF
    exact fin vals w1 hG (hF 16 (by decide +kernel)) (hF 17 (by decide +kernel))
theorem padded_c (w : World) (B s g : Nat) (v : Value) (ws : List (BitVec 64)) (b t e : Nat) (p : SpAt w B s g v ws b t e) (hl : ws.length ≤ 100000) (a : Nat) (h2 : a < t) (hg : goodX (ws.getD a 0#64) (t - a) = true) :
    Calls Try.prog 92 #[.pointer (some ⟨s, 0, none⟩), .int .i64 a, .agg #[.int .i64 (P0 (ws.getD a 0#64) : Int), .int .i64 (B0 (ws.getD a 0#64) : Int), .bool false, .int .i64 0]] w (RetP (.bool (padB ws (8 * (a + 1 + P0 (ws.getD a 0#64)) + B0 (ws.getD a 0#64)) (8 * (a + szX (ws.getD a 0#64)) - (8 * (a + 1 + P0 (ws.getD a 0#64)) + B0 (ws.getD a 0#64))))) w) := by
  obtain ⟨_, hP, hN, hsz, hsh, hroom⟩ := head_of hg
  obtain ⟨P, hP'⟩ : ∃ P, P = P0 (ws.getD a 0#64) := ⟨_, rfl⟩
  obtain ⟨N, hN'⟩ : ∃ P, P = B0 (ws.getD a 0#64) := ⟨_, rfl⟩
  obtain ⟨Z, hZ'⟩ : ∃ P, P = szX (ws.getD a 0#64) := ⟨_, rfl⟩
  rw [← hP'] at hP
  rw [← hN'] at hN
  rw [← hP', ← hN', ← hZ'] at hsz hsh
  rw [← hZ'] at hroom
  rw [← hP', ← hN', ← hZ']
  have htw : t ≤ ws.length := Nat.le_trans p.te p.el
  obtain ⟨J, hJ⟩ : ∃ J, J = 8 * (a + 1 + P) + N := ⟨_, rfl⟩
  obtain ⟨K, hK⟩ : ∃ K, K = 8 * (a + Z) - J := ⟨_, rfl⟩
  rw [← hJ, ← hK]
  unfold padB
  obtain ⟨xs, hxs⟩ : ∃ xs, bytesM ws J K = xs := ⟨_, rfl⟩
  rw [hxs]
  have hxl : xs.length = K := by rw [← hxs]; simp [bytesM]
  obtain ⟨R, hR⟩ : ∃ R, R = xs.all (· == 0#8) := ⟨_, rfl⟩
  rw [← hR]
  have HRR := Lib.hid hR
  clear hR
  have q0 : ((a : Int) + 1 + (P : Int)) * 8 + (N : Int) = (J : Int) := by omega
  have HQ := Lib.hid (show (a : Int) ≤ 100000 ∧ (Z : Int) ≤ 1000 ∧ ((a : Int) + (Z : Int)) * 8 - (J : Int) = (K : Int) ∧ (K : Int) ≤ 1000 ∧ (J : Int) ≤ 1000000 ∧ J + K ≤ 8 * ws.length from by omega)
  have HX := Lib.hid hxs
  have HS := Lib.hid hsh
  have HL := Lib.hid hl
  have HXl := Lib.hid hxl
  have HP := Lib.hid p
  have q1 : (a : Int) ≤ 100000 := by omega
  have q2 : (P : Int) ≤ 64 := by omega
  have q3 : (N : Int) ≤ 1024 := by omega
  have q4 : (0 : Int) ≤ (a : Int) := by omega
  have q5 : (0 : Int) ≤ (P : Int) := by omega
  have q6 : (0 : Int) ≤ (N : Int) := by omega
  have HQ0 := Lib.hid q0
  clear p hl h2 hg hP hN hsz hsh hroom hP' hN' hZ' htw hJ hK hxs hxl q0
  go_enter Try.func92, Try.ntmps92
  go_wp2_with fail
  rw [HQ0.out]
  obtain ⟨w1, hw1⟩ : ∃ w1, w1 = w.alloc (.cells #[.int .i64 P, .int .i64 N, .bool false, .int .i64 0] 76) := ⟨_, rfl⟩
  have hb1 : Below w.heap.size w w1 := by rw [hw1]; exact Gw.alloc w _
  have hk1 : Bk w1 w.heap.size 76 #[.int .i64 P, .int .i64 N, .bool false, .int .i64 0] := by rw [hw1]; exact Bk.new w _ _
  rw [← hw1]
  have HB1 := Lib.hid hb1
  refine pad_r _ _ _ s g w.heap.size B a Z J K b t e P N v ws xs hk1 (Lib.hid (HP.out.below hb1)) HS HX (Lib.hid HQ.out.2.2.2.2.2) HL HQ.out.1 HQ.out.2.1 (Int.natCast_nonneg _) (Int.natCast_nonneg _) HQ.out.2.2.1 HQ.out.2.2.2.1 (Int.natCast_nonneg _) HQ.out.2.2.2.2.1 (Int.natCast_nonneg _) rfl rfl rfl rfl rfl ?_
  intro vals w2 hG h8 h9
  obtain ⟨A, c, e8, hrd⟩ := h8
  unfold IsV at h9
  simp only [putD, Act.put, List.setIfInBounds_toArray, List.set_cons_zero, List.set_cons_succ, e8, h9]
  rw [HXl.out]
  have HB2 := Lib.hid (HB1.out.trans (hG.mono HB1.out.size))
  have HR := Lib.hid hrd
  have qK : (K : Int) ≤ 1000 := HQ.out.2.2.2.1
  clear hG e8 h9 hrd hk1 hw1 hb1
  go_wp2_with fail
  go_loopw [41, 11] (fun i y W => ∃ k : Nat, i = .int .i64 k ∧ k ≤ K ∧ Hid ((xs.take k).all (· == 0#8) = true) ∧ W = w2) (fun i _ _ => K - (Go.RowKit.intOf i).toNat)
  case atStart => exact ⟨0, rfl, Nat.zero_le _, Lib.hid rfl, rfl⟩
  case round =>
    obtain ⟨k, rfl, hk, hz, rfl⟩ := hrel
    by_cases hlt : k < K
    · have hkx : k < xs.length := by rw [HXl.out]; exact hlt
      obtain ⟨y, hy⟩ : ∃ y, y = xs[k] := ⟨_, rfl⟩
      obtain ⟨ad, rfl, _, hc⟩ := HR.out k hkx
      rw [← hy] at hc
      unfold b8 at hc
      have p1 : (0 : Int) ≤ (k : Int) := by omega
      have p2 : (k : Int) < (K : Int) := by omega
      by_cases hy0 : y = 0#8
      · have hU : U8 y = 0 := by rw [hy0]; decide +kernel
        rw [hU] at hc
        have HZ := Lib.hid (show (xs.take (k + 1)).all (· == 0#8) = true from by
          rw [List.take_succ_eq_append_getElem hkx, List.all_append, hz.out, ← hy, hy0]; rfl)
        clear hy hU hy0 hkx
        go_wp2_with fail
        clear hc
        go_roundw
        case rel => first | exact ⟨k + 1, by go_num, by omega, HZ, rfl⟩ | exact ⟨k + 1, by go_num, by omega, HZ, trivial⟩ | exact ⟨k + 1, by go_num, by omega, HZ⟩
        case measure => simp [Go.RowKit.intOf]; omega
      · have hU1 : (U8 y == 0) = false := by
          have : U8 y ≠ 0 := fun e => hy0 (by
            unfold U8 at e
            exact BitVec.eq_of_toNat_eq (by simpa using e))
          simpa using this
        have hU2 : (U8 y != 0) = true := by unfold bne; rw [hU1]; rfl
        have hRf : R = false := by
          rw [HRR.out]
          cases h : xs.all (· == 0#8) with
          | false => rfl
          | true =>
            have := List.all_eq_true.1 h y (by rw [hy]; exact List.getElem_mem _)
            exact absurd (by simpa using this) hy0
        subst hRf
        clear hy hy0 hkx
        go_wp2_with fail
        go_ret
        exact ⟨rfl, HB2.out⟩
    · have hkK : k = K := by omega
      have hRt : R = true := by
        rw [HRR.out, ← hz.out, hkK, List.take_of_length_le (by rw [HXl.out]; exact Nat.le_refl _)]
      subst hRt
      clear hz hkK
      go_wp2_with fail
      go_ret
      exact ⟨rfl, HB2.out⟩
end Go.Proofs.Ytbanbpphadgoiaa
/- obj.Well. Conditions: lengths. -/
namespace Go.Proofs.Ytbanbpphadgoiaa
set_option linter.unusedVariables false
set_option linter.unusedSimpArgs false
open Go.RowKit Go.Maps
section
variable {ops : Array Oper} {rest : List Oper} {o : Oper} {a : Act} {w : World} {Q : Exit → Act → World → Prop} {b : Nat} {m : List Int}
theorem wp_putI (hg : o.guard = none) (mm x v : Operand) (hop : o.op = Op.mapUpdate 134 mm x v)
    (hm : a.eval mm = .map (some b)) (h : SetI w b m) (p : Int) (hx : a.eval x = .int .i64 p) (hv : a.eval v = .agg #[]) (hp : kW p) (hl : m.length ≤ 1000000)
    (hK : ∀ w', SetI w' b (addS m p) → Kept (fun c => some b = some c) w w' → wpList Try.prog ops Q rest (a.put o.dst undef) w') : wpList Try.prog ops Q (o :: rest) a w := by
  refine wpList_plain hg fun K' hK' => ?_
  obtain ⟨w', hrun, r1, r2⟩ := h.put hp (by unfold maxLen; omega)
  unfold Oper.wp
  simp [execOp, hop, hm, hx, hv, hrun, Result.andThen]
  exact hK' _ _ (hK w' r1 r2)
end
theorem mk_set (W : World) (n : Int) : (Instr.makeMap 134 (some (.int .i64 n))).run Try.prog W = .ok (.map (some W.heap.size)) (W.alloc (.map #[] 0)) := by
  simp [Instr.makeMap, run_underlying Try.underlying134, asInt, asIntOf, Result.andThen]
theorem mem_addS {m : List Int} {p q : Int} : q ∈ addS m p ↔ q ∈ m ∨ q = p := by
  unfold addS
  split
  · rename_i h
    constructor
    · exact .inl
    · rintro (h1 | rfl)
      · exact h1
      · exact h
  · rw [List.mem_append, List.mem_singleton]
theorem addS_len {m : List Int} {p : Int} : (addS m p).length ≤ m.length + 1 := by
  unfold addS
  split
  · omega
  · rw [List.length_append]; exact Nat.le_refl _
theorem objF_mem {ws : List (BitVec 64)} {top : Nat} : ∀ (n a : Nat) (l : List Nat), objF ws top n a = some l → ∀ x ∈ l, a ≤ x ∧ x < top ∧ goodX (ws.getD x 0#64) (top - x) = true
  | 0, a, l, h, x, hx => by injection h with h; subst h; cases hx
  | n + 1, a, l, h, x, hx => by
    have e : objF ws top (n + 1) a = if a < top then (if goodX (ws.getD a 0#64) (top - a) = true then (objF ws top n (a + szX (ws.getD a 0#64))).map (a :: ·) else none) else some [] := rfl
    rw [e] at h
    by_cases c : a < top
    · rw [if_pos c] at h
      by_cases d : goodX (ws.getD a 0#64) (top - a) = true
      · rw [if_pos d] at h
        cases hr : objF ws top n (a + szX (ws.getD a 0#64)) with
        | none => rw [hr] at h; cases h
        | some r =>
          rw [hr] at h
          injection h with h
          subst h
          rcases List.mem_cons.1 hx with rfl | hx
          · exact ⟨Nat.le_refl _, c, d⟩
          · have := objF_mem n _ r hr x hx
            exact ⟨by omega, this.2⟩
      · rw [if_neg d] at h; cases h
    · rw [if_neg c] at h
      injection h with h
      subst h
      cases hx
theorem objF_len {ws : List (BitVec 64)} {top : Nat} : ∀ (n a : Nat) (l : List Nat), objF ws top n a = some l → l.length ≤ n
  | 0, a, l, h => by injection h with h; subst h; exact Nat.le_refl _
  | n + 1, a, l, h => by
    have e : objF ws top (n + 1) a = if a < top then (if goodX (ws.getD a 0#64) (top - a) = true then (objF ws top n (a + szX (ws.getD a 0#64))).map (a :: ·) else none) else some [] := rfl
    rw [e] at h
    by_cases c : a < top
    · rw [if_pos c] at h
      by_cases d : goodX (ws.getD a 0#64) (top - a) = true
      · rw [if_pos d] at h
        cases hr : objF ws top n (a + szX (ws.getD a 0#64)) with
        | none => rw [hr] at h; cases h
        | some r =>
          rw [hr] at h
          injection h with h
          subst h
          have := objF_len n _ r hr
          rw [List.length_cons]; omega
      · rw [if_neg d] at h; cases h
    · rw [if_neg c] at h
      injection h with h
      subst h
      exact Nat.zero_le _
/-- Does pointer k of the object at a place lead to one of some, or nowhere? -/
def ptrN (ws : List (BitVec 64)) (l : List Nat) (a k : Nat) : Bool := decide ((ws.getD (a + 1 + k) 0#64).toNat = 0 ∨ (1 ≤ (ws.getD (a + 1 + k) 0#64).toNat ∧ (ws.getD (a + 1 + k) 0#64).toNat - 1 ∈ l))
def padN (ws : List (BitVec 64)) (a : Nat) : Bool := padB ws (8 * (a + 1 + P0 (ws.getD a 0#64)) + B0 (ws.getD a 0#64)) (8 * (a + szX (ws.getD a 0#64)) - (8 * (a + 1 + P0 (ws.getD a 0#64)) + B0 (ws.getD a 0#64)))
def wellN (ws : List (BitVec 64)) (l : List Nat) (a : Nat) : Bool := (List.range (P0 (ws.getD a 0#64))).all (ptrN ws l a) && padN ws a
def wellE (ws : List (BitVec 64)) (b t : Nat) : Int := match objF ws t (t + 1) b with
  | none => 2
  | some l => if l.all (wellN ws l) = true then 0 else 2
theorem well_none {ws : List (BitVec 64)} {b t : Nat} (h : objF ws t (t + 1) b = none) : wellE ws b t = 2 := by unfold wellE; rw [h]
theorem well_some {ws : List (BitVec 64)} {b t : Nat} {l : List Nat} (h : objF ws t (t + 1) b = some l) : wellE ws b t = if l.all (wellN ws l) = true then 0 else 2 := by unfold wellE; rw [h]
theorem all_no {α : Type} {f : α → Bool} {l : List α} {x : α} (hx : x ∈ l) (h : f x = false) : ¬ l.all f = true := fun e => by
  have := List.all_eq_true.1 e x hx
  rw [h] at this; cases this
set_option maxHeartbeats 4000000
set_option maxRecDepth 100000
theorem well_c (w : World) (B s g : Nat) (v : Value) (ws : List (BitVec 64)) (b t e : Nat) (p : SpAt w B s g v ws b t e) (hl : ws.length ≤ 8192) :
    Calls Try.prog 79 #[.pointer (some ⟨s, 0, none⟩)] w (RetP (.int .i64 (wellE ws b t)) w) := by
  have HOb := Lib.hid (objects_c w B s g v ws b t e p (by omega))
  obtain ⟨R, hR⟩ : ∃ R, R = wellE ws b t := ⟨_, rfl⟩
  rw [← hR]
  have HR := Lib.hid hR
  have HP := Lib.hid p
  have HL := Lib.hid hl
  have HT := Lib.hid (show t ≤ 8192 from by have := p.te; have := p.el; omega)
  clear hR p hl
  cases ho : objF ws t (t + 1) b with
  | none =>
    rw [ho] at HOb
    have HOb2 := Lib.hid (show Calls Try.prog 25 #[.pointer (some ⟨s, 0, none⟩)] w (RetP (.tuple #[.slice none 0 0, .int .i64 2]) w) from HOb.out)
    obtain rfl : R = 2 := by rw [HR.out]; exact well_none ho
    clear HOb ho HR
    go_enter Try.func79, Try.ntmps79
    go_wp2_with fail
    refine Calls.mono HOb2.out ?_
    rintro r w2 ⟨rfl, b2⟩
    have HB2 := Lib.hid b2
    clear b2
    go_wp2_with fail
    go_ret
    exact ⟨rfl, HB2.out⟩
  | some l =>
    rw [ho] at HOb
    have HOb2 := Lib.hid (show Calls Try.prog 25 #[.pointer (some ⟨s, 0, none⟩)] w (MkEP iN 3 l 0 w) from HOb.out)
    have HRl := Lib.hid (show R = if l.all (wellN ws l) = true then 0 else 2 from by rw [HR.out]; exact well_some ho)
    have HMem := Lib.hid (objF_mem _ _ _ ho)
    have hlen := objF_len _ _ _ ho
    obtain ⟨N, hN⟩ : ∃ N, N = l.length := ⟨_, rfl⟩
    have qN : (N : Int) ≤ 8193 := by have := HT.out; omega
    have HN := Lib.hid hN
    clear HOb ho HR hlen hN
    go_enter Try.func79, Try.ntmps79
    go_wp2_with fail
    refine Calls.mono HOb2.out ?_
    rintro r w2 ⟨A, c, rfl, hc, ho, b2⟩
    have HB2 := Lib.hid b2
    have HRd := Lib.hid ho.rd
    rw [← HN.out]
    clear hc ho b2
    have hmk := mk_set w2 (N : Int)
    go_wp2_with fail
    clear hmk
    obtain ⟨mb, hmb⟩ : ∃ mb, mb = w2.heap.size := ⟨_, rfl⟩
    obtain ⟨w3, hw3⟩ : ∃ w3, w3 = w2.alloc (.map #[] 0) := ⟨_, rfl⟩
    have hb3 : Below w2.heap.size w2 w3 := by rw [hw3]; exact Gw.alloc w2 _
    have hs3 : SetI w3 mb [] := by rw [hw3, hmb]; exact SetI.made w2
    rw [← hmb, ← hw3]
    have H3 := Lib.hid (And.intro hb3 (And.intro hs3 hmb))
    clear hmb hw3 hb3 hs3
    go_loopw [30] (fun i W => ∃ k : Nat, i = .int .i64 k ∧ k ≤ N ∧ Hid (Below w2.heap.size w2 W ∧ ∃ M, SetI W mb M ∧ (∀ x : Int, x ∈ M ↔ ∃ y ∈ l.take k, x = (y : Int)) ∧ M.length ≤ k)) (fun i _ => N - (Go.RowKit.intOf i).toNat)
    case atStart => exact ⟨0, rfl, Nat.zero_le _, Lib.hid ⟨H3.out.1, [], H3.out.2.1, fun x => by simp, Nat.zero_le _⟩⟩
    case round =>
      obtain ⟨k, rfl, hk, hS⟩ := hrel
      by_cases hlt : k < N
      · have hkl : k < l.length := by rw [← HN.out]; exact hlt
        obtain ⟨y, hy⟩ : ∃ y, y = l[k] := ⟨_, rfl⟩
        obtain ⟨hb, M, hM, hMi, hMl⟩ := hS.out
        obtain ⟨ad, rfl, _, hc⟩ := (HRd.out.below hb) k hkl
        rw [← hy] at hc
        unfold iN at hc
        have hyt := (HMem.out y (by rw [hy]; exact List.getElem_mem _)).2.1
        have hkw : kW (y : Int) := wfI (by omega) (by have := HT.out; omega)
        have HK := Lib.hid (And.intro hkw (show M.length ≤ 1000000 from by omega))
        have HSt := Lib.hid hM
        have HNx := Lib.hid (show ∀ (W : World), Kept (fun c => some mb = some c) wr W → SetI W mb (addS M (y : Int)) → (Below w2.heap.size w2 W ∧ ∃ M, SetI W mb M ∧ (∀ x : Int, x ∈ M ↔ ∃ z ∈ l.take (k + 1), x = (z : Int)) ∧ M.length ≤ k + 1) from fun W hk2 hs2 => by
          refine ⟨hb.trans (hk2.below hb.size (fun c e => by injection e with e; have := H3.out.2.2; omega)), _, hs2, fun x => ?_, Nat.le_trans addS_len (by omega)⟩
          rw [mem_addS, hMi, List.take_succ_eq_append_getElem hkl, ← hy]
          constructor
          · rintro (⟨z, hz, rfl⟩ | rfl)
            · exact ⟨z, List.mem_append.2 (.inl hz), rfl⟩
            · exact ⟨y, by simp, rfl⟩
          · rintro ⟨z, hz, rfl⟩
            rcases List.mem_append.1 hz with hz | hz
            · exact .inl ⟨z, hz, rfl⟩
            · right; rw [List.mem_singleton.1 hz])
        have p1 : (0 : Int) ≤ (k : Int) := by omega
        have p2 : (k : Int) < (N : Int) := by omega
        clear hy hb hM hMi hMl hyt hkw hkl
        go_wp2_with (at_mapUpdate; refine wp_putI rfl (.tmp 34) (.tmp 35) (.tmp 36) rfl rfl HSt.out (y : Int) rfl rfl HK.out.1 HK.out.2 ?_; intro w8 h8 k8; have HX := Lib.hid (HNx.out w8 k8 h8); clear h8 k8)
        clear hc
        go_roundw
        case rel => first | exact ⟨k + 1, by go_num, by omega, HX⟩ | exact ⟨_, ⟨k + 1, by go_num, by omega, HX⟩, rfl⟩
        case measure => simp [Go.RowKit.intOf]; omega
      · have hkN : k = N := by omega
        obtain ⟨hb, M, hM, hMi, hMl⟩ := hS.out
        rw [hkN, List.take_of_length_le (by rw [← HN.out]; exact Nat.le_refl _)] at hMi
        obtain ⟨w5, hw5⟩ : ∃ w5, w5 = wr := ⟨_, rfl⟩
        rw [← hw5] at hb hM ⊢
        have H5 := Lib.hid (And.intro (HB2.out.trans (hb.mono HB2.out.size)) (And.intro hM hMi))
        have HRd5 := Lib.hid (HRd.out.below hb)
        have hw2 := hb.size
        clear hS hb hM hMi hMl hkN hw5
        go_wp2_with fail
        clear hlt hk
        go_loopw [40] (fun i W => ∃ k : Nat, i = .int .i64 k ∧ k ≤ N ∧ Hid ((l.take k).all (wellN ws l) = true) ∧ Hid (Below w5.heap.size w5 W)) (fun i _ => N - (Go.RowKit.intOf i).toNat)
        case atStart => exact ⟨0, rfl, Nat.zero_le _, Lib.hid rfl, Lib.hid (Below.refl _ _)⟩
        case round =>
          obtain ⟨k, rfl, hk, hW, hB⟩ := hrel
          by_cases hlt : k < N
          · have hkl : k < l.length := by rw [← HN.out]; exact hlt
            obtain ⟨a, ha⟩ : ∃ a, a = l[k] := ⟨_, rfl⟩
            have ham : a ∈ l := by rw [ha]; exact List.getElem_mem _
            obtain ⟨hab, hat, hag⟩ := HMem.out a ham
            obtain ⟨ad, rfl, _, hc⟩ := (HRd5.out.below (hB.out.mono hw2)) k hkl
            rw [← ha] at hc
            unfold iN at hc
            have HLk := Lib.hid (look_ok wr B s g v ws b t e (HP.out.below (H5.out.1.trans (hB.out.mono H5.out.1.size))) (by have := HL.out; omega) a hab hat hag)
            have HPt := Lib.hid (fun W (hb : Below w5.heap.size w5 W) (j : Nat) (hj : j < P0 (ws.getD a 0#64)) => Ptr_c W B s g v ws b t e (HP.out.below (H5.out.1.trans (hb.mono H5.out.1.size))) HL.out a j hab hat hag hj)
            have HPd := Lib.hid (fun W (hb : Below w5.heap.size w5 W) => padded_c W B s g v ws b t e (HP.out.below (H5.out.1.trans (hb.mono H5.out.1.size))) (by have := HL.out; omega) a hat hag)
            have HTk := Lib.hid (show l.take (k + 1) = l.take k ++ [a] from by rw [List.take_succ_eq_append_getElem hkl, ha])
            obtain ⟨PD, hPD⟩ : ∃ q, q = padN ws a := ⟨_, rfl⟩
            have hpd0 : padB ws (8 * (a + 1 + P0 (ws.getD a 0#64)) + B0 (ws.getD a 0#64)) (8 * (a + szX (ws.getD a 0#64)) - (8 * (a + 1 + P0 (ws.getD a 0#64)) + B0 (ws.getD a 0#64))) = PD := by rw [hPD]; rfl
            rw [hpd0] at HPd
            have hPb := (head_of hag).2.1
            obtain ⟨P, hP'⟩ : ∃ P, P = P0 (ws.getD a 0#64) := ⟨_, rfl⟩
            obtain ⟨BN, hN'⟩ : ∃ P, P = B0 (ws.getD a 0#64) := ⟨_, rfl⟩
            have hwn : wellN ws l a = ((List.range P).all (ptrN ws l a) && PD) := by rw [hP', hPD]; rfl
            have HWn := Lib.hid (And.intro hwn ham)
            rw [← hP', ← hN'] at HLk HPd
            rw [← hP'] at HPt hPb
            have p1 : (0 : Int) ≤ (k : Int) := by omega
            have p2 : (k : Int) < (N : Int) := by omega
            have q3 : (P : Int) ≤ 64 := by omega
            clear ha ham hab hat hag hPD hpd0 hPb hP' hN' hwn hkl
            go_wp2_with fail
            refine Calls.mono HLk.out ?_
            rintro r w6 ⟨rfl, b6⟩
            have HB6 := Lib.hid (hB.out.trans (b6.mono hB.out.size))
            clear b6 hc
            go_wp2_with fail
            obtain ⟨hx, hhx⟩ : ∃ hx, hx = w6.heap.size := ⟨_, rfl⟩
            obtain ⟨w7, hw7⟩ : ∃ w7, w7 = w6.alloc (.cells #[.int .i64 P, .int .i64 BN, .bool false, .int .i64 0] 76) := ⟨_, rfl⟩
            have hb7 : Below w6.heap.size w6 w7 := by rw [hw7]; exact Gw.alloc w6 _
            have hk7 : Bk w7 hx 76 #[.int .i64 P, .int .i64 BN, .bool false, .int .i64 0] := by rw [hw7, hhx]; exact Bk.new w6 _ _
            rw [← hhx, ← hw7]
            have H7 := Lib.hid (And.intro (HB6.out.trans (hb7.mono HB6.out.size)) hk7)
            clear hhx hw7 hb7 hk7
            go_loopw [55] (fun i W => ∃ j : Nat, i = .int .i64 j ∧ j ≤ P ∧ Hid ((List.range j).all (ptrN ws l a) = true) ∧ Hid (Below w7.heap.size w7 W)) (fun i _ => P - (Go.RowKit.intOf i).toNat)
            case atStart => exact ⟨0, rfl, Nat.zero_le _, Lib.hid rfl, Lib.hid (Below.refl _ _)⟩
            case round =>
              clear hlt hk
              obtain ⟨j, rfl, hj, hA, hB7⟩ := hrel
              by_cases hjt : j < P
              · have HB5 := Lib.hid (H7.out.1.trans (hB7.out.mono H7.out.1.size))
                have HC := Lib.hid (HPt.out wr HB5.out j hjt)
                obtain ⟨y, hy⟩ : ∃ y, y = ws.getD (a + 1 + j) 0#64 := ⟨_, rfl⟩
                rw [← hy] at HC
                have hpn : ptrN ws l a j = decide (y.toNat = 0 ∨ (1 ≤ y.toNat ∧ y.toNat - 1 ∈ l)) := by unfold ptrN; rw [← hy]
                have HPn := Lib.hid hpn
                have HRg := Lib.hid (show (List.range (j + 1)).all (ptrN ws l a) = ptrN ws l a j from by rw [List.range_succ, List.all_append, hA.out]; simp)
                have HNo := Lib.hid (show ptrN ws l a j = false → R = 2 from fun h => by
                  rw [HRl.out, if_neg (all_no HWn.out.2 ?_)]
                  rw [HWn.out.1, Bool.and_eq_false_iff]
                  left
                  cases h2 : (List.range P).all (ptrN ws l a) with
                  | false => rfl
                  | true =>
                    have := List.all_eq_true.1 h2 j (List.mem_range.2 hjt)
                    rw [h] at this; cases this)
                have p3 : (0 : Int) ≤ (j : Int) := by omega
                have p4 : (j : Int) < (P : Int) := by omega
                clear hy hpn
                cases hpk : pokB b t y with
                | false =>
                  rw [(pt_no hpk).1, (pt_no hpk).2] at HC
                  obtain rfl : R = 2 := HNo.out (by
                    rw [HPn.out, decide_eq_false_iff_not]
                    rintro (h | ⟨h1, h2⟩)
                    · unfold pokB at hpk; simp [h] at hpk
                    · have := HMem.out _ h2
                      unfold pokB at hpk
                      rw [decide_eq_false_iff_not] at hpk
                      omega)
                  clear hpk
                  go_wp2_with fail
                  refine Calls.mono HC.out ?_
                  rintro r w8 ⟨rfl, b8⟩
                  have HB8 := Lib.hid (HB5.out.trans (b8.mono HB5.out.size))
                  clear b8
                  go_wp2_with fail
                  go_ret
                  exact ⟨rfl, H5.out.1.trans (HB8.out.mono H5.out.1.size)⟩
                | true =>
                  rw [(pt_yes hpk).1, (pt_yes hpk).2] at HC
                  obtain ⟨n, hn⟩ : ∃ n, n = y.toNat := ⟨_, rfl⟩
                  rw [← hn] at HC HPn
                  have hpk2 : n = 0 ∨ (b < n ∧ n ≤ t) := by
                    unfold pokB at hpk
                    rw [← hn] at hpk
                    exact of_decide_eq_true hpk
                  have hnt : n ≤ 8192 := by have := HT.out; omega
                  obtain ⟨d, hd⟩ : ∃ d, d = decide (((n : Int) - 1) ∈ M) := ⟨_, rfl⟩
                  have HLo := Lib.hid (fun W (hb : Below w5.heap.size w5 W) => (H5.out.2.1.below hb).look (p := (n : Int) - 1) (wfI (by omega) (by omega)))
                  rw [← hd] at HLo
                  have HD := Lib.hid (show ((n : Int) - 1) ∈ M ↔ (1 ≤ n ∧ n - 1 ∈ l) from by
                    rw [H5.out.2.2]
                    constructor
                    · rintro ⟨z, hz, e⟩
                      have : n = z + 1 := by omega
                      subst this
                      exact ⟨by omega, by simpa using hz⟩
                    · rintro ⟨h1, h2⟩
                      exact ⟨n - 1, h2, by omega⟩)
                  have HDd := Lib.hid hd
                  clear hn hpk hpk2 hd
                  go_wp2_with fail
                  refine Calls.mono HC.out ?_
                  rintro r w8 ⟨rfl, b8⟩
                  have HB8 := Lib.hid (HB5.out.trans (b8.mono HB5.out.size))
                  have HB78 := Lib.hid (hB7.out.trans (b8.mono hB7.out.size))
                  have hlk := HLo.out w8 HB8.out
                  have hhz := HB8.out.size
                  clear b8
                  by_cases hn0 : n = 0
                  · subst hn0
                    have hd0 : d = false := by
                      rw [HDd.out, decide_eq_false_iff_not, HD.out]; omega
                    subst hd0
                    have hok := (HRg.out.trans HPn.out)
                    have HOk := Lib.hid (show (List.range (j + 1)).all (ptrN ws l a) = true from by rw [hok]; simp)
                    clear hok hnt hjt
                    have hlk2 : (Instr.lookup 134 (.map (some mb)) (.int .i64 (-1)) true).run Try.prog w8 = .ok (.tuple #[.agg #[], .bool false]) w8 := hlk
                    clear hlk
                    go_wp2_with fail
                    have HB9 := Lib.hid (show Below w7.heap.size w7 (w8.alloc (.cells #[] 133)) from HB78.out.trans ((Gw.alloc w8 _).mono HB78.out.size))
                    clear hlk2
                    go_roundw
                    case rel => exact ⟨j + 1, by go_num, by omega, HOk, HB9⟩
                    case measure => simp [Go.RowKit.intOf]; omega
                  · obtain ⟨m, hm⟩ : ∃ m : Nat, (n : Int) - 1 = (m : Int) := ⟨n - 1, by omega⟩
                    have q1 : ((m : Int) == -1) = false := by simp
                    have q2 : ((m : Int) != -1) = true := by simp
                    have hpd : ptrN ws l a j = d := by
                      rw [HPn.out, HDd.out, decide_eq_decide, HD.out]
                      constructor
                      · rintro (h | h)
                        · exact absurd h hn0
                        · exact h
                      · exact .inr
                    rw [hm] at hlk ⊢
                    cases d with
                    | true =>
                      have HOk := Lib.hid (show (List.range (j + 1)).all (ptrN ws l a) = true from by rw [HRg.out, hpd])
                      clear hpd hm hn0 hnt hjt
                      go_wp2_with fail
                      have HB9 := Lib.hid (show Below w7.heap.size w7 (w8.alloc (.cells #[] 133)) from HB78.out.trans ((Gw.alloc w8 _).mono HB78.out.size))
                      clear hlk q1 q2
                      go_roundw
                      case rel => exact ⟨j + 1, by go_num, by omega, HOk, HB9⟩
                      case measure => simp [Go.RowKit.intOf]; omega
                    | false =>
                      obtain rfl : R = 2 := HNo.out hpd
                      clear hpd hm hn0 hnt hjt
                      go_wp2_with fail
                      have HB9 := Lib.hid (HB8.out.trans ((Gw.alloc w8 (.cells #[] 133)).mono HB8.out.size))
                      clear hlk q1 q2
                      go_ret
                      exact ⟨rfl, H5.out.1.trans (HB9.out.mono H5.out.1.size)⟩
              · have hjP : j = P := by omega
                have HAl := Lib.hid (show (List.range P).all (ptrN ws l a) = true from by rw [← hjP]; exact hA.out)
                have HB5 := Lib.hid (H7.out.1.trans (hB7.out.mono H7.out.1.size))
                have hk8 := H7.out.2.below hB7.out H7.out.2.lt
                obtain ⟨d0, d1, d2, d3⟩ := hk8.four
                clear hA hk8 hjP
                go_wp2_with fail
                refine Calls.mono (HPd.out wr HB5.out) ?_
                rintro r w8 ⟨rfl, b8⟩
                have HB8 := Lib.hid (HB5.out.trans (b8.mono HB5.out.size))
                clear b8 d0 d1 d2 d3
                cases PD with
                | true =>
                  have HX := Lib.hid (show (l.take (k + 1)).all (wellN ws l) = true from by
                    rw [HTk.out, List.all_append, hW.out, Bool.true_and, List.all_cons, List.all_nil, Bool.and_true, HWn.out.1, HAl.out]; rfl)
                  go_wp2_with fail
                  go_roundw
                  case rel => exact ⟨k + 1, by go_num, by omega, HX, HB8⟩
                  case measure => simp [Go.RowKit.intOf]; omega
                | false =>
                  obtain rfl : R = 2 := by
                    rw [HRl.out, if_neg (all_no HWn.out.2 ?_)]
                    rw [HWn.out.1, Bool.and_false]
                  go_wp2_with fail
                  go_ret
                  exact ⟨rfl, H5.out.1.trans (HB8.out.mono H5.out.1.size)⟩
          · have hkN : k = N := by omega
            obtain rfl : R = 0 := by
              have h := hW.out
              rw [hkN, List.take_of_length_le (by rw [← HN.out]; exact Nat.le_refl _)] at h
              rw [HRl.out, if_pos h]
            clear hkN
            go_wp2_with fail
            go_ret
            exact ⟨rfl, H5.out.1.trans (hB.out.mono H5.out.1.size)⟩
end Go.Proofs.Ytbanbpphadgoiaa
/- What carry does, on words. No conditions. -/
namespace Go.Proofs.Ytbanbpphadgoiaa
set_option linter.unusedVariables false
set_option linter.unusedSimpArgs false
open Go.RowKit Go.Maps
/-- The old words (headers turned where objects went), the new ones, where they end. -/
structure Cy where
  F : List (BitVec 64)
  T : List (BitVec 64)
  top : Nat
def cpW (T F : List (BitVec 64)) (u a : Nat) : Nat → List (BitVec 64)
  | 0 => T
  | k + 1 => (cpW T F u a k).set (u + (k + 1)) (F.getD (a + (k + 1)) 0#64)
theorem cpW_len (T F : List (BitVec 64)) (u a : Nat) : ∀ k, (cpW T F u a k).length = T.length
  | 0 => rfl
  | k + 1 => by unfold cpW; rw [List.length_set]; exact cpW_len T F u a k
/-- The header of an object that went. -/
def goneW (u : Nat) : BitVec 64 := packH 0 0 true (u : Int)
def movC (c : Cy) (a : Nat) : Cy := ⟨c.F.set a (goneW c.top), cpW (allocW c.T c.top (szX (c.F.getD a 0#64)) (c.F.getD a 0#64)) c.F c.top a (szX (c.F.getD a 0#64) - 1), c.top + szX (c.F.getD a 0#64)⟩
/-- An object at an old place is taken: its new place. -/
def takeC (c : Cy) (a : Nat) : Option (Nat × Cy) :=
  if fM (c.F.getD a 0#64) = true then some ((fT (c.F.getD a 0#64)).toNat, c)
  else if szX (c.F.getD a 0#64) ≤ c.T.length - c.top then some (c.top, movC c a) else none
/-- By a pointer's word: 0 is none. -/
def takeP (c : Cy) (p : Nat) : Option (Nat × Cy) := match p with
  | 0 => some (0, c)
  | a + 1 => (takeC c a).map fun r => (r.1 + 1, r.2)
def setC (c : Cy) (i : Nat) (p : Nat) : Cy := ⟨c.F, c.T.set i (BitVec.ofNat 64 p), c.top⟩
/-- n pointers from the i-th on of the object at a new place. -/
def scanC (at_ : Nat) : Nat → Nat → Cy → Option Cy
  | 0, _, c => some c
  | n + 1, i, c => match takeP c (c.T.getD (at_ + 1 + i) 0#64).toNat with
    | none => none
    | some (p, d) => scanC at_ n (i + 1) (setC d (at_ + 1 + i) p)
/-- All that is there is scanned, from a new place on. -/
def goC : Nat → Nat → Cy → Option Cy
  | 0, _, c => some c
  | f + 1, at_, c => if at_ < c.top then
      match scanC at_ (P0 (c.T.getD at_ 0#64)) 0 c with
      | none => none
      | some d => goC f (at_ + szX (d.T.getD at_ 0#64)) d
    else some c
def rootsC : List Nat → Cy → Option (List Nat × Cy)
  | [], c => some ([], c)
  | p :: l, c => match takeP c p with
    | none => none
    | some (q, d) => match rootsC l d with
      | none => none
      | some (qs, e) => some (q :: qs, e)
theorem movC_len (c : Cy) (a : Nat) : (movC c a).F.length = c.F.length ∧ (movC c a).T.length = c.T.length := by
  unfold movC
  exact ⟨by simp, by simp [cpW_len, allocW_len]⟩
/-- A header that an old place may have: a whole object's, or one that went. -/
def okF (F : List (BitVec 64)) (t a : Nat) : Prop := okU (F.getD a 0#64) = true ∧ (fM (F.getD a 0#64) = true ∨ goodX (F.getD a 0#64) (t - a) = true)
end Go.Proofs.Ytbanbpphadgoiaa
/- A region that keeps its order, by a fact for each of its operations. No conditions. -/
namespace Go.Proofs.Ytbanbpphadgoiaa
set_option linter.unusedVariables false
set_option linter.unusedSimpArgs false
open Go.RowKit
section
variable {P : Program} {ops : Array Oper} {Q : Exit → Act → World → Prop} {G : World → World → Prop} {F : Nat → Value → World → Prop} {a0 : Act} {w0 : World}
end
section
variable {P : Program} {ops : Array Oper} {Q : Exit → Act → World → Prop} {F : Nat → Value → World → Prop} {a0 : Act} {w0 : World}
end
/-- A region's operations from the k-th on, each of which waits for all that stand ahead of it. -/
def cutOps (k : Nat) (ops : Array Oper) : List Oper := ops.toList.drop k
def fullO (k : Nat) (p : Oper × Nat) : Oper := { p.1 with guard := p.1.guard.map fun g => (g.1 - k, g.2), after := ((List.range p.2).map fun j => ({ on := j, ground := .data } : Edge)).toArray }
def fullOps (k : Nat) (ops : Array Oper) : Array Oper := ((cutOps k ops).zipIdx.map (fullO k)).toArray
def cutB (k : Nat) (ops : Array Oper) : Bool := (cutOps k ops).all fun o => match o.guard with | none => true | some g => decide (k ≤ g.1)
end Go.Proofs.Ytbanbpphadgoiaa
/- A region that draws its order, some of whose operations store into boxes that it makes: by a fact for each operation. No conditions. -/
namespace Go.Proofs.Ytbanbpphadgoiaa
set_option linter.unusedVariables false
set_option linter.unusedSimpArgs false
open Go.RowKit
section
variable {P : Program} {ops : Array Oper} {Q : Exit → Act → World → Prop} {G D : World → World → Prop} {F : Nat → Value → World → Prop} {a0 : Act} {w0 : World} {src : Nat → Nat}
/-- Each operation has a slot of its own, or none; it waits for elder ones alone; none defers. -/
def regGB (ops : Array Oper) (size : Nat) : Bool :=
  (List.range ops.size).all fun i => match ops[i]? with
    | none => false
    | some o =>
      (match o.dst with
       | none => true
       | some d => decide (d < size) && (List.range ops.size).all fun j => j == i || dstOf ops j != some d) &&
      (o.after.all fun e => !Region.binds .any e || decide (e.on < i)) &&
      (match o.op with | .defer _ => false | .select .. => false | _ => true)
def srcB (ops : Array Oper) (src : Nat → Nat) : Bool :=
  (List.range ops.size).all fun i => (src i == i && (dstOf ops i).isSome) || ((dstOf ops i).isNone && waitsB ops i (src i) && (dstOf ops (src i)).isSome)
/-- What operation i owes: its fact, of what it leaves, or of what another has left, and what it turns. -/
def OwesG (P : Program) (ops : Array Oper) (Q : Exit → Act → World → Prop) (G D : World → World → Prop) (F : Nat → Value → World → Prop) (src : Nat → Nat) (a0 : Act) (w0 : World) (i : Nat) : Prop :=
  ∀ (a : Act) (w : World), G w0 w → a.defers = a0.defers → a.tmps.size = a0.tmps.size →
    (∀ j, waitsB ops i j = true → src j = j → F j (valAt ops a j) w) →
    (∀ t, (∀ j, dstOf ops j = some t → waitsB ops j i = true) → a.tmps.getD t undef = a0.tmps.getD t undef) →
    wpOp P ops Q i (fun a' w' => ∃ v, a' = a.put (dstOf ops i) v ∧ D w w' ∧ F i (if src i = i then v else valAt ops a (src i)) w') a w
theorem regGB_at {size : Nat} (h : regGB ops size = true) {i : Nat} (hi : i < ops.size) : ∃ o, ops[i]? = some o ∧ (∀ d, o.dst = some d → d < size ∧ (∀ j, j < ops.size → j ≠ i → dstOf ops j ≠ some d)) ∧ (∀ e ∈ o.after, Region.binds .any e = true → e.on < i) := by
  unfold regGB at h
  rw [List.all_eq_true] at h
  have h1 := h i (List.mem_range.2 hi)
  cases ho : ops[i]? with
  | none => rw [ho] at h1; cases h1
  | some o =>
    rw [ho] at h1
    simp only [Bool.and_eq_true] at h1
    obtain ⟨⟨h1, h2⟩, _⟩ := h1
    refine ⟨o, rfl, fun d hd => ?_, fun e he hb => ?_⟩
    · rw [hd] at h1
      simp only [Bool.and_eq_true, decide_eq_true_eq, List.all_eq_true, List.mem_range, Bool.or_eq_true, beq_iff_eq, bne_iff_ne] at h1
      refine ⟨h1.1, fun j hj hne => ?_⟩
      rcases h1.2 j hj with h | h
      · exact absurd h hne
      · exact h
    · have := Array.all_eq_true_iff_forall_mem.1 h2 e he
      simpa [hb] using this
/-- What operation i owes, at the very state: its fact, of whatever it leaves. -/
def OwesD (P : Program) (ops : Array Oper) (Q : Exit → Act → World → Prop) (G D : World → World → Prop) (F : Nat → Value → World → Prop) (a0 : Act) (w0 : World) (i : Nat) : Prop :=
  ∀ (a : Act) (w : World), G w0 w → a.defers = a0.defers → a.tmps.size = a0.tmps.size →
    (∀ j, waitsB ops i j = true → F j (valAt ops a j) w) →
    (∀ t, (∀ j, dstOf ops j = some t → waitsB ops j i = true) → a.tmps.getD t undef = a0.tmps.getD t undef) →
    wpOp P ops Q i (fun a' w' => ∃ v, a' = a.put (dstOf ops i) v ∧ D w w' ∧ F i v w') a w

/-- An operation that runs whatever comes: by the operations js that it waits for. -/
theorem owes_ofD {i : Nat} {o : Oper} (js : List Nat) (ho : ops[i]? = some o) (hg : o.guard = none) (hsee : seesB ops i js = true)
    (hnd : match o.op with | .defer _ => False | .select .. => False | _ => True)
    (h : ∀ (vals : Nat → Value) (w : World), G w0 w → (∀ j ∈ js, F j (vals j) w) → ∀ K : Act → World → Prop, (∀ v w', D w w' → F i v w' → K ((putL ops vals js a0).put o.dst v) w') →
      Oper.wp P o (putL ops vals js a0) w K NoQ) : OwesD P ops Q G D F a0 w0 i := by
  intro a w hG hd hs hF hR
  unfold wpOp
  rw [ho]
  simp only [Region.wanted, hg, if_true]
  left
  have hsee' : (js.all (fun j => waitsB ops i j) = true) ∧ ∀ t ∈ (o.op.operands.toList.filterMap fun | .tmp t => some t | _ => none), js.any (fun j => dstOf ops j == some t) = true ∨ (List.range ops.size).all (fun j => dstOf ops j != some t || waitsB ops j i) = true := by
    unfold seesB at hsee
    rw [ho] at hsee
    simp only [Bool.and_eq_true, List.all_eq_true, Bool.or_eq_true] at hsee
    refine ⟨by rw [List.all_eq_true]; exact hsee.1, fun t ht => ?_⟩
    rcases hsee.2 t ht with h | h
    · exact .inl h
    · right; rw [List.all_eq_true]; simpa using h
  have hjs : ∀ j ∈ js, waitsB ops i j = true := List.all_eq_true.1 hsee'.1
  have ht : ∀ t ∈ (o.op.operands.toList.filterMap fun | .tmp t => some t | _ => none), a0.tmps.getD t undef = a.tmps.getD t undef ∨ ∃ j ∈ js, dstOf ops j = some t := by
    intro t ht
    rcases hsee'.2 t ht with h | h
    · right
      rw [List.any_eq_true] at h
      obtain ⟨j, hj, e⟩ := h
      exact ⟨j, hj, by simpa using e⟩
    · left
      refine (hR t fun j hj => ?_).symm
      rw [List.all_eq_true] at h
      have hlt : j < ops.size := by
        rcases Nat.lt_or_ge j ops.size with hl | hl
        · exact hl
        · unfold dstOf at hj; rw [Array.getElem?_eq_none hl] at hj; cases hj
      have := h j (List.mem_range.2 hlt)
      simpa [hj] using this
  have he : execOp (putL ops (valAt ops a) js a0).eval o = execOp a.eval o := by
    refine execOp_congr o (fun cs b e => by rw [e] at hnd; exact hnd) fun x hx => ?_
    cases x with
    | tmp t =>
      show (putL ops (valAt ops a) js a0).tmps.getD t undef = a.tmps.getD t undef
      exact putL_at a t js a0 hs.symm (ht t (List.mem_filterMap.2 ⟨.tmp t, by simpa using hx, rfl⟩))
    | _ => rfl
  have hsz : a.tmps.size = (putL ops (valAt ops a) js a0).tmps.size := by rw [putL_size, hs]
  have hdo : dstOf ops i = o.dst := by unfold dstOf; rw [ho]; rfl
  rw [hdo]
  refine wp_same (K1 := fun A' w' => ∃ v, A' = (putL ops (valAt ops a) js a0).put o.dst v ∧ D w w' ∧ F i v w') he hsz hnd ?_ ?_
  · exact h (valAt ops a) w hG (fun j hj => hF j (hjs j hj)) _ (fun v w' g f => ⟨v, rfl, v, rfl, g, f⟩)
  · rintro v w' ⟨v', e, g, f⟩
    exact ⟨v', put_eq e hsz, g, f⟩

theorem owes_vD {i : Nat} (op : Op) (type : TypeId) (js : List Nat) (ho : (ops[i]?).map (fun o => (o.op, o.type)) = some (op, type)) (hg : (ops[i]?).bind (·.guard) = none) (hsee : seesB ops i js = true)
    (hnd : callsB op = true)
    (h : ∀ (vals : Nat → Value) (w : World) (ρ : Operand → Value), G w0 w → (∀ j ∈ js, F j (vals j) w) → (∀ t, ρ (.tmp t) = (putL ops vals js a0).tmps.getD t undef) → (∀ c, ρ (.const c) = c) → (∀ f, ρ (.func f) = .func (.func f) #[] #[]) →
      OpV P op type ρ w fun v w' => D w w' ∧ F i v w') : OwesD P ops Q G D F a0 w0 i := by
  obtain ⟨o, h1, h2, h3⟩ := isOp_mk ho
  subst h2 h3
  rw [h1] at hg
  exact owes_ofD js h1 hg hsee (by revert hnd; cases o.op <;> simp [callsB]) fun vals w hG hF K hK => opv_wp (h vals w (putL ops vals js a0).eval hG hF (fun t => rfl) (fun c => rfl) (fun f => rfl)) fun v w' hr => hK v w' hr.1 hr.2
/-- A copy of a slot that is as it was. -/
theorem owes_mvD (hD : ∀ w, D w w) {i : Nat} (t : Tmp) {c : Value} (ho : ((ops[i]?).map fun o => copies t o.op) = some true) (hg : (ops[i]?).bind (·.guard) = none) (hsee : seesB ops i [] = true) (hv : a0.tmps.getD t undef = c) (hF : ∀ w, F i c w) :
    OwesD P ops Q G D F a0 w0 i := by
  cases hi : ops[i]? with
  | none => rw [hi] at ho; cases ho
  | some o =>
    rw [hi] at ho
    simp only [Option.map_some, Option.some.injEq] at ho
    refine owes_vD o.op o.type [] (by rw [hi]; rfl) hg hsee (by revert ho; cases o.op <;> simp [copies, callsB]) fun vals w ρ hG hF' hρ hc hf => ?_
    exact opv_val (copies_run ho) ⟨hD _, by rw [hρ t]; show F i (a0.tmps.getD t undef) w; rw [hv]; exact hF w⟩
/-- A copy of what operation j leaves. -/
theorem owes_mvjD (hD : ∀ w, D w w) {i : Nat} (j : Nat) (t : Tmp) (ho : ((ops[i]?).map fun o => copies t o.op) = some true) (hg : (ops[i]?).bind (·.guard) = none) (hsee : seesB ops i [j] = true) (hd : dstOf ops j = some t) (hl : t < a0.tmps.size) (hF : ∀ v w, F j v w → F i v w) :
    OwesD P ops Q G D F a0 w0 i := by
  cases hi : ops[i]? with
  | none => rw [hi] at ho; cases ho
  | some o =>
    rw [hi] at ho
    simp only [Option.map_some, Option.some.injEq] at ho
    refine owes_vD o.op o.type [j] (by rw [hi]; rfl) hg hsee (by revert ho; cases o.op <;> simp [copies, callsB]) fun vals w ρ hG hF' hρ hc hf => ?_
    refine opv_val (copies_run ho) ⟨hD _, ?_⟩
    rw [hρ t]
    unfold putL putL
    rw [hd, put_same _ _ _ hl]
    exact hF _ _ (hF' j (.head _))

/-- An operation with a slot of its own. -/
theorem OwesG.mk {i : Nat} (hs0 : src i = i) (hsw : ∀ j, waitsB ops i j = true → src j = j) (h : OwesD P ops Q G D F a0 w0 i) : OwesG P ops Q G D F src a0 w0 i := by
  intro a w hG hd hs hF hR
  refine wpOp_mono ?_ (h a w hG hd hs (fun j hj => hF j hj (hsw j hj)) hR)
  rintro a' w' ⟨v, e, hg, hf⟩
  exact ⟨v, e, hg, by rw [if_pos hs0]; exact hf⟩
/-- An operation without a slot, whose fact is of what another has left. -/
theorem OwesG.store {i : Nat} {o : Oper} (js : List Nat) (ho : ops[i]? = some o) (hg : o.guard = none) (hdn : o.dst = none) (hs0 : src i ≠ i) (hmem : src i ∈ js) (hjs : ∀ j ∈ js, src j = j) (hsee : seesB ops i js = true)
    (hnd : match o.op with | .defer _ => False | .select .. => False | _ => True)
    (h : ∀ (vals : Nat → Value) (w : World), G w0 w → (∀ j ∈ js, F j (vals j) w) → ∀ K : Act → World → Prop, (∀ v w', D w w' → F i (vals (src i)) w' → K ((putL ops vals js a0).put o.dst v) w') →
      Oper.wp P o (putL ops vals js a0) w K NoQ) : OwesG P ops Q G D F src a0 w0 i := by
  intro a w hG hd hs hF hR
  unfold wpOp
  rw [ho]
  simp only [Region.wanted, hg, if_true]
  left
  have hsee' : (js.all (fun j => waitsB ops i j) = true) ∧ ∀ t ∈ (o.op.operands.toList.filterMap fun | .tmp t => some t | _ => none), js.any (fun j => dstOf ops j == some t) = true ∨ (List.range ops.size).all (fun j => dstOf ops j != some t || waitsB ops j i) = true := by
    unfold seesB at hsee
    rw [ho] at hsee
    simp only [Bool.and_eq_true, List.all_eq_true, Bool.or_eq_true] at hsee
    refine ⟨by rw [List.all_eq_true]; exact hsee.1, fun t ht => ?_⟩
    rcases hsee.2 t ht with h | h
    · exact .inl h
    · right; rw [List.all_eq_true]; simpa using h
  have hjs2 : ∀ j ∈ js, waitsB ops i j = true := List.all_eq_true.1 hsee'.1
  have ht : ∀ t ∈ (o.op.operands.toList.filterMap fun | .tmp t => some t | _ => none), a0.tmps.getD t undef = a.tmps.getD t undef ∨ ∃ j ∈ js, dstOf ops j = some t := by
    intro t ht
    rcases hsee'.2 t ht with h | h
    · right
      rw [List.any_eq_true] at h
      obtain ⟨j, hj, e⟩ := h
      exact ⟨j, hj, by simpa using e⟩
    · left
      refine (hR t fun j hj => ?_).symm
      rw [List.all_eq_true] at h
      have hlt : j < ops.size := by
        rcases Nat.lt_or_ge j ops.size with hl | hl
        · exact hl
        · unfold dstOf at hj; rw [Array.getElem?_eq_none hl] at hj; cases hj
      have := h j (List.mem_range.2 hlt)
      simpa [hj] using this
  have he : execOp (putL ops (valAt ops a) js a0).eval o = execOp a.eval o := by
    refine execOp_congr o (fun cs b e => by rw [e] at hnd; exact hnd) fun x hx => ?_
    cases x with
    | tmp t =>
      show (putL ops (valAt ops a) js a0).tmps.getD t undef = a.tmps.getD t undef
      exact putL_at a t js a0 hs.symm (ht t (List.mem_filterMap.2 ⟨.tmp t, by simpa using hx, rfl⟩))
    | _ => rfl
  have hsz : a.tmps.size = (putL ops (valAt ops a) js a0).tmps.size := by rw [putL_size, hs]
  have hdo : dstOf ops i = o.dst := by unfold dstOf; rw [ho]; rfl
  rw [hdo]
  refine wp_same (K1 := fun A' w' => ∃ v, A' = (putL ops (valAt ops a) js a0).put o.dst v ∧ D w w' ∧ F i (valAt ops a (src i)) w') he hsz hnd ?_ ?_
  · exact h (valAt ops a) w hG (fun j hj => hF j (hjs2 j hj) (hjs j hj)) _ (fun v w' g f => ⟨v, rfl, v, rfl, g, f⟩)
  · rintro v w' ⟨v', e, g, f⟩
    exact ⟨v', put_eq e hsz, g, by rw [if_neg hs0]; exact f⟩

theorem OwesG.weak {i : Nat} {Pr : World → Prop} (h : OwesG P ops Q G D F src a0 w0 i) : OwesG P ops Q (fun w w' => G w w' ∧ Pr w') D F src a0 w0 i := fun a w hG hd hs hF hR => h a w hG.1 hd hs hF hR
theorem region_factsG {id : Nat} {DD : Nat → World → World → Prop} (Pre : Nat → World → Prop) (hpre0 : ∀ i, i < ops.size → Pre i w0.drew) (hpres : ∀ i k, i < ops.size → k < ops.size → k ≠ i → ∀ a b, G w0 a → Pre k a → DD i a b → Pre k b) (hm : P.follows .mixedOrders = true) (hrefl : G w0 w0.drew) (htrans : ∀ i, i < ops.size → ∀ a b, G w0 a → DD i a b → G w0 b) (hmono : ∀ i j, i < ops.size → j < ops.size → i ≠ j → ∀ v a b, F j v a → DD i a b → F j v b)
    (hreg : regGB ops a0.tmps.size = true) (hsrc : srcB ops src = true) (howes : ∀ i, i < ops.size → OwesG P ops Q (fun w w' => G w w' ∧ Pre i w') (DD i) F src a0 w0 i)
    (fin : ∀ (vals : Nat → Value) (w : World), G w0 w → (∀ j, j < ops.size → F j (vals (src j)) w) → Q .normal (putL ops vals (List.range ops.size) a0) w) :
    (Code.region id ops true).wp P Q a0 w0 := by
  have main : ∀ (fuel : Nat) (listed : Array Bool) (a : Act) (w : World), listed.size = ops.size →
      ((List.range ops.size).filter fun j => !listed.getD j true).length ≤ fuel →
      G w0 w → (∀ j, j < ops.size → listed.getD j true = false → Pre j w) → a.defers = a0.defers → a.tmps.size = a0.tmps.size →
      (∀ j, j < ops.size → listed.getD j true = true → F j (valAt ops a (src j)) w) →
      (∀ t, (∀ j, j < ops.size → listed.getD j true = true → dstOf ops j ≠ some t) → a.tmps.getD t undef = a0.tmps.getD t undef) →
      (∀ j, j < ops.size → listed.getD j true = true → ∀ k, waitsB ops j k = true → listed.getD k false = true) →
      wpAny P .any ops Q fuel listed a w := by
    intro fuel
    -- where nothing may come up all has come up
    have allUp : ∀ (listed : Array Bool), listed.size = ops.size → Region.ready .any ops listed = [] → ∀ j, j < ops.size → listed.getD j true = true := by
      intro listed hsz hr j
      induction j using Nat.strongRecOn with
      | ind j ih =>
        intro hj
        cases hl : listed.getD j true with
        | true => rfl
        | false =>
          exfalso
          obtain ⟨o, ho, _, he⟩ := regGB_at hreg hj
          have : j ∈ Region.ready .any ops listed := mem_ready.2 ⟨hl, o, ho, fun e hem hb => by
            have hlt := he e hem hb
            have := ih e.on hlt (by omega)
            rw [Array.getD_eq_getD_getElem?] at this ⊢
            rw [Array.getElem?_eq_getElem (by omega)] at this ⊢
            exact this⟩
          rw [hr] at this
          cases this
    have done : ∀ (listed : Array Bool) (a : Act) (w : World), (∀ j, j < ops.size → listed.getD j true = true) → G w0 w → a.defers = a0.defers → a.tmps.size = a0.tmps.size →
        (∀ j, j < ops.size → listed.getD j true = true → F j (valAt ops a (src j)) w) →
        (∀ t, (∀ j, j < ops.size → listed.getD j true = true → dstOf ops j ≠ some t) → a.tmps.getD t undef = a0.tmps.getD t undef) → Q .normal a w := by
      intro listed a w hall hG hd hs hF hR
      have := fin (valAt ops a) w hG (fun j hj => hF j hj (hall j hj))
      rw [putL_whole a (List.range ops.size) a0 hs.symm hd.symm] at this
      · exact this
      · intro t
        by_cases e : ∃ j, j < ops.size ∧ dstOf ops j = some t
        · obtain ⟨j, hj, hjd⟩ := e
          exact .inr ⟨j, List.mem_range.2 hj, hjd⟩
        · left
          exact (hR t fun j hj _ he => e ⟨j, hj, he⟩).symm
    induction fuel with
    | zero =>
      intro listed a w hsz hcnt hG hPre hd hs hF hR hC
      have hall : ∀ j, j < ops.size → listed.getD j true = true := by
        intro j hj
        cases hl : listed.getD j true with
        | true => rfl
        | false =>
          have : j ∈ (List.range ops.size).filter fun j => !listed.getD j true := List.mem_filter.2 ⟨List.mem_range.2 hj, by simp only [hl]; rfl⟩
          rw [List.eq_nil_of_length_eq_zero (Nat.le_zero.1 hcnt)] at this
          cases this
      refine ⟨?_, done listed a w hall hG hd hs hF hR⟩
      apply List.eq_nil_iff_forall_not_mem.2
      intro j hj
      obtain ⟨h1, o, ho, _⟩ := mem_ready.1 hj
      have hlt : j < ops.size := (Array.getElem?_eq_some_iff.1 ho).1
      rw [hall j hlt] at h1
      cases h1
    | succ fuel ih =>
      intro listed a w hsz hcnt hG hPre hd hs hF hR hC
      refine ⟨fun hr => done listed a w (allUp listed hsz hr) hG hd hs hF hR, fun i hi => ?_⟩
      obtain ⟨hun, o, ho, hall⟩ := mem_ready.1 hi
      have hlt : i < ops.size := (Array.getElem?_eq_some_iff.1 ho).1
      have hlz : i < listed.size := by omega
      have hw : ∀ j, waitsB ops i j = true → j < ops.size ∧ listed.getD j true = true := by
        intro j hj
        obtain ⟨o', ho', e, he, hb, rfl⟩ := waits_some hj
        rw [ho] at ho'
        injection ho' with ho'
        subst ho'
        have h1 := hall e he hb
        rw [Array.getD_eq_getD_getElem?] at h1
        rcases Nat.lt_or_ge e.on listed.size with hl | hl
        · refine ⟨by omega, ?_⟩
          rw [Array.getD_eq_getD_getElem?]
          rw [Array.getElem?_eq_getElem hl] at h1 ⊢
          exact h1
        · rw [Array.getElem?_eq_none hl] at h1; cases h1
      have hstep := howes i hlt a w ⟨hG, hPre i hlt hun⟩ hd hs (fun j hj hsj => by have h1 := hF j (hw j hj).1 (hw j hj).2; rw [hsj] at h1; exact h1) (fun t ht => hR t fun j hj hl he => by
        have h1 := hC j hj hl i (ht j he)
        rw [Array.getD_eq_getD_getElem?, Array.getElem?_eq_getElem hlz] at h1 hun
        simp only [Option.getD_some] at h1 hun
        rw [h1] at hun; cases hun)
      refine wpOp_mono ?_ hstep
      rintro a' w' ⟨v, rfl, hg, hf⟩
      have hset : ∀ j b, (listed.setIfInBounds i true).getD j b = if j = i then true else listed.getD j b := by
        intro j b
        rw [Array.getD_eq_getD_getElem?, Array.getD_eq_getD_getElem?, Array.getElem?_setIfInBounds]
        by_cases e : i = j
        · subst e; simp [hlz]
        · rw [if_neg e, if_neg (fun h => e h.symm)]
      obtain ⟨o2, ho2, hd2, _⟩ := regGB_at hreg hlt
      have hdo : dstOf ops i = o2.dst := by unfold dstOf; rw [ho2]; rfl
      have hput : ∀ k, k < ops.size → k ≠ i → valAt ops (a.put (dstOf ops i) v) k = valAt ops a k := by
        intro k hk hne
        unfold valAt
        cases hkd : dstOf ops k with
        | none => rfl
        | some dk =>
          simp only
          refine put_other _ _ _ _ fun h => ?_
          exact (hd2 dk (by rw [← hdo]; exact h)).2 k hk hne hkd
      have hsr : ∀ k, k < ops.size → (src k = k ∧ (dstOf ops k).isSome = true) ∨ (dstOf ops k = none ∧ waitsB ops k (src k) = true ∧ (dstOf ops (src k)).isSome = true) := by
        intro k hk
        unfold srcB at hsrc
        rw [List.all_eq_true] at hsrc
        have := hsrc k (List.mem_range.2 hk)
        simp only [Bool.or_eq_true, Bool.and_eq_true, beq_iff_eq, Option.isNone_iff_eq_none] at this
        rcases this with h | h
        · exact .inl h
        · exact .inr ⟨h.1.1, h.1.2, h.2⟩
      refine ih (listed.setIfInBounds i true) (a.put (dstOf ops i) v) w' (by simp [hsz]) ?_ (htrans i hlt _ _ hG hg) (fun j hj hl => by
        by_cases e : j = i
        · rw [hset, if_pos e] at hl; cases hl
        · rw [hset, if_neg e] at hl
          exact hpres i j hlt hj e _ _ hG (hPre j hj hl) hg) (by rw [← hd]; cases dstOf ops i <;> rfl) (by rw [put_size, hs]) ?_ ?_ ?_
      · have := filter_less (p := fun j => !listed.getD j true) (q := fun j => !(listed.setIfInBounds i true).getD j true) (i := i) (l := List.range ops.size) (fun x hx => by
          rw [hset] at hx
          by_cases e : x = i
          · rw [if_pos e] at hx; cases hx
          · rw [if_neg e] at hx; exact hx) (List.mem_range.2 hlt) (by rw [hun]; rfl) (by rw [hset, if_pos rfl]; rfl)
        omega
      · intro j hj hl
        by_cases e : j = i
        · subst e
          rcases hsr j hj with ⟨h1, h2⟩ | ⟨h1, h2, h3⟩
          · rw [if_pos h1] at hf
            rw [h1]
            obtain ⟨d, hdj⟩ := Option.isSome_iff_exists.1 h2
            have h3 : valAt ops (a.put (dstOf ops j) v) j = v := by
              unfold valAt
              rw [hdj]
              simp only
              exact put_same _ _ _ (by rw [hs]; exact (hd2 d (by rw [← hdo]; exact hdj)).1)
            rw [h3]
            exact hf
          · have hne : src j ≠ j := fun e => by rw [e, h1] at h3; cases h3
            rw [if_neg hne] at hf
            rw [hput _ (hw _ h2).1 hne]
            exact hf
        · rw [hset, if_neg e] at hl
          have h1 := hmono i j hlt hj (fun h => e h.symm) _ _ _ (hF j hj hl) hg
          have hne : src j ≠ i ∧ src j < ops.size := by
            rcases hsr j hj with ⟨h2, _⟩ | ⟨_, h2, h3⟩
            · rw [h2]; exact ⟨e, hj⟩
            · constructor
              · intro h
                have h4 := hC j hj hl _ h2
                rw [h, Array.getD_eq_getD_getElem?, Array.getElem?_eq_getElem hlz] at h4
                rw [Array.getD_eq_getD_getElem?, Array.getElem?_eq_getElem hlz] at hun
                simp only [Option.getD_some] at h4 hun
                rw [h4] at hun; cases hun
              · rcases Nat.lt_or_ge (src j) ops.size with h | h
                · exact h
                · unfold dstOf at h3; rw [Array.getElem?_eq_none h] at h3; cases h3
          rw [hput _ hne.2 hne.1]
          exact h1
      · intro t ht
        have h1 : dstOf ops i ≠ some t := fun h => ht i hlt (by rw [hset, if_pos rfl]) h
        rw [put_other _ _ _ _ h1]
        exact hR t fun j hj hl => ht j hj (by rw [hset]; split <;> simp_all)
      · intro j hj hl k hk
        rw [hset]
        by_cases e : k = i
        · rw [if_pos e]
        · rw [if_neg e]
          by_cases e2 : j = i
          · subst e2
            have h1 := (hw k hk)
            have h2 : k < listed.size := by omega
            have h3 := h1.2
            rw [Array.getD_eq_getD_getElem?, Array.getElem?_eq_getElem h2] at h3 ⊢
            exact h3
          · rw [hset, if_neg e2] at hl
            exact hC j hj hl k hk
  refine wp_region_any hm ?_
  refine main ops.size (Array.replicate ops.size false) a0 w0.drew (by simp) ?_ hrefl (fun j hj _ => hpre0 j hj) rfl rfl ?_ ?_ ?_
  · exact Nat.le_trans (List.length_filter_le _ _) (by simp)
  · intro j hj hl
    rw [Array.getD_eq_getD_getElem?, Array.getElem?_eq_getElem (by simpa using hj)] at hl
    simp at hl
  · intro t _; rfl
  · intro j hj hl
    rw [Array.getD_eq_getD_getElem?, Array.getElem?_eq_getElem (by simpa using hj)] at hl
    simp at hl
def putO (vals : Nat → Value) : List (Option Tmp) → Nat → Act → Act
  | [], _, a => a
  | d :: ds, k, a => putO vals ds (k + 1) (a.put d (vals k))
theorem putO_eq {ops : Array Oper} (vals : Nat → Value) : ∀ (ds : List (Option Tmp)) (n k : Nat) (a : Act), (List.range' k n).map (dstOf ops) = ds → putL ops vals (List.range' k n) a = putO vals ds k a
  | [], n, k, a, h => by
    have : n = 0 := by simpa using congrArg List.length h
    subst this; rfl
  | d :: ds, 0, k, a, h => by simp at h
  | d :: ds, n + 1, k, a, h => by
    rw [List.range'_succ, List.map_cons] at h
    injection h with h1 h2
    rw [List.range'_succ]
    unfold putL putO
    rw [h1]
    exact putO_eq vals ds n (k + 1) _ h2
def relOf (sts : List (Nat × (World → World → Prop))) (i : Nat) : World → World → Prop := match sts.find? (fun p => p.1 == i) with
  | some p => p.2
  | none => Gw
def srcOf (ss : List (Nat × Nat)) (i : Nat) : Nat := match ss.find? (fun p => p.1 == i) with
  | some p => p.2
  | none => i
theorem region_byG {id : Nat} (Fs : List (Value → World → Prop)) (sts : List (Nat × (World → World → Prop))) (ss : List (Nat × Nat)) (ds : List (Option Tmp))
    (hm : P.follows .mixedOrders = true)
    (hreg : regGB ops a0.tmps.size = true) (hsrc : srcB ops (srcOf ss) = true) (hds : (List.range' 0 ops.size).map (dstOf ops) = ds)
    (hpure : ∀ f ∈ Fs, ∀ v a b, f v a → Gw a b → f v b)
    (hst : ∀ p ∈ sts, (∀ a b, Below w0.heap.size w0 a → p.2 a b → Below w0.heap.size w0 b) ∧ ∀ f ∈ Fs.eraseIdx p.1, ∀ v a b, f v a → p.2 a b → f v b)
    (howes : AllN (fun i => OwesG P ops Q (fun w w' => Below w.heap.size w w') (relOf sts i) (fun j => Fs.getD j fun _ _ => True) (srcOf ss) a0 w0 i) ops.size 0)
    (fin : ∀ (vals : Nat → Value) (w : World), Below w0.heap.size w0 w → (∀ j, j < ops.size → (Fs.getD j fun _ _ => True) (vals (srcOf ss j)) w) → Q .normal (putO vals ds 0 a0) w) :
    (Code.region id ops true).wp P Q a0 w0 := by
  have hrel : ∀ i, relOf sts i = Gw ∨ ∃ p ∈ sts, p.1 = i ∧ relOf sts i = p.2 := by
    intro i
    unfold relOf
    cases h : sts.find? (fun p => p.1 == i) with
    | none => exact .inl rfl
    | some p => exact .inr ⟨p, List.mem_of_find?_eq_some h, by have := List.find?_some h; simpa using this, rfl⟩
  refine region_factsG (G := fun w w' => Below w.heap.size w w') (DD := relOf sts) (src := srcOf ss) (fun _ _ => True) (fun _ _ => trivial) (fun _ _ _ _ _ _ _ _ _ _ => trivial) hm (Gw.drew _) ?_ ?_ hreg hsrc (fun i hi => (howes.at_ _ _ i (by omega) (by omega)).weak) ?_
  · intro i _ a b hG hD
    rcases hrel i with h | ⟨p, hp, _, h⟩
    · rw [h] at hD; exact hG.trans (Below.mono hD hG.size)
    · rw [h] at hD; exact (hst p hp).1 a b hG hD
  · intro i j _ _ hne v a b h g
    rw [List.getD_eq_getElem?_getD] at h ⊢
    cases hj : Fs[j]? with
    | none => exact trivial
    | some f =>
      rw [hj] at h
      rcases hrel i with hr | ⟨p, hp, e, hr⟩
      · rw [hr] at g; exact hpure f (List.mem_of_getElem? hj) v a b h g
      · rw [hr] at g
        refine (hst p hp).2 f ?_ v a b h g
        rw [e]
        refine List.mem_eraseIdx_iff_getElem?.2 ⟨j, fun h => hne h.symm, hj⟩
  · intro vals w hG hF
    rw [List.range_eq_range', putO_eq vals ds ops.size 0 a0 hds]
    exact fin vals w hG hF
/-- As region_byG, with any relation to the start. -/
theorem region_byK {id : Nat} (Fs : List (Value → World → Prop)) (sts : List (Nat × (World → World → Prop))) (ss : List (Nat × Nat)) (ds : List (Option Tmp))
    (G0 : World → Prop) (hm : P.follows .mixedOrders = true) (hd0 : G0 w0.drew) (hpg : ∀ a b, G0 a → Gw a b → G0 b) (mt : Nat) (Pre : World → Prop) (hp0 : Pre w0.drew) (hpp : ∀ a b, Pre a → Gw a b → Pre b) (hmt : ∀ p ∈ sts, p.1 = mt)
    (hreg : regGB ops a0.tmps.size = true) (hsrc : srcB ops (srcOf ss) = true) (hds : (List.range' 0 ops.size).map (dstOf ops) = ds)
    (hpure : ∀ f ∈ Fs, ∀ v a b, f v a → Gw a b → f v b)
    (hst : ∀ p ∈ sts, (∀ a b, G0 a → p.2 a b → G0 b) ∧ ∀ f ∈ Fs.eraseIdx p.1, ∀ v a b, f v a → p.2 a b → f v b)
    (howes : AllN (fun i => OwesG P ops Q (fun _ w' => G0 w' ∧ (if i = mt then Pre w' else True)) (relOf sts i) (fun j => Fs.getD j fun _ _ => True) (srcOf ss) a0 w0 i) ops.size 0)
    (fin : ∀ (vals : Nat → Value) (w : World), G0 w → (∀ j, j < ops.size → (Fs.getD j fun _ _ => True) (vals (srcOf ss j)) w) → Q .normal (putO vals ds 0 a0) w) :
    (Code.region id ops true).wp P Q a0 w0 := by
  have hrel : ∀ i, relOf sts i = Gw ∨ ∃ p ∈ sts, p.1 = i ∧ relOf sts i = p.2 := by
    intro i
    unfold relOf
    cases h : sts.find? (fun p => p.1 == i) with
    | none => exact .inl rfl
    | some p => exact .inr ⟨p, List.mem_of_find?_eq_some h, by have := List.find?_some h; simpa using this, rfl⟩
  refine region_factsG (G := fun _ w' => G0 w') (DD := relOf sts) (src := srcOf ss) (fun i w => if i = mt then Pre w else True) (fun i _ => by by_cases e : i = mt; rw [if_pos e]; exact hp0; rw [if_neg e]; trivial) (fun i k _ _ hne a b _ h g => by
    by_cases e : k = mt
    · rw [if_pos e] at h ⊢
      rcases hrel i with hr | ⟨p, hp, e2, hr⟩
      · rw [hr] at g; exact hpp a b h g
      · exact absurd ((hmt p hp).symm.trans e2) (fun h2 => hne (e.trans h2))
    · rw [if_neg e]; trivial) hm hd0 ?_ ?_ hreg hsrc (fun i hi => howes.at_ _ _ i (by omega) (by omega)) ?_
  · intro i _ a b hG hD
    rcases hrel i with h | ⟨p, hp, _, h⟩
    · rw [h] at hD; exact hpg a b hG hD
    · rw [h] at hD; exact (hst p hp).1 a b hG hD
  · intro i j _ _ hne v a b h g
    rw [List.getD_eq_getElem?_getD] at h ⊢
    cases hj : Fs[j]? with
    | none => exact trivial
    | some f =>
      rw [hj] at h
      rcases hrel i with hr | ⟨p, hp, e, hr⟩
      · rw [hr] at g; exact hpure f (List.mem_of_getElem? hj) v a b h g
      · rw [hr] at g
        refine (hst p hp).2 f ?_ v a b h g
        rw [e]
        refine List.mem_eraseIdx_iff_getElem?.2 ⟨j, fun h => hne h.symm, hj⟩
  · intro vals w hG hF
    rw [List.range_eq_range', putO_eq vals ds ops.size 0 a0 hds]
    exact fin vals w hG hF
/-- A value, and what holds of the world. -/
def AndV (c : Value) (P : World → Prop) (v : Value) (w : World) : Prop := v = c ∧ P w
theorem AndV.mono {c v : Value} {P : World → Prop} {a b : World} (hP : ∀ a b, P a → Gw a b → P b) (h : AndV c P v a) (g : Gw a b) : AndV c P v b := ⟨h.1, hP a b h.2 g⟩
end
end Go.Proofs.Ytbanbpphadgoiaa
/- Stores into boxes that a region makes: the facts, and what such a store owes. No conditions. -/
namespace Go.Proofs.Ytbanbpphadgoiaa
set_option linter.unusedVariables false
set_option linter.unusedSimpArgs false
open Go.RowKit Go.Maps
/-- A box of n cells of type T, made since B. -/
def BoxV (T : TypeId) (n B : Nat) (v : Value) (w : World) : Prop := ∃ k cs, v = .pointer (some ⟨k, 0, none⟩) ∧ B ≤ k ∧ cs.size = n ∧ Bk w k T cs
/-- A box that holds cs. -/
def BoxC (T : TypeId) (cs : Array Value) (B : Nat) (v : Value) (w : World) : Prop := ∃ k, v = .pointer (some ⟨k, 0, none⟩) ∧ B ≤ k ∧ Bk w k T cs
/-- A store into a box of n cells of type T, made since B. -/
def StD (T : TypeId) (n B : Nat) (a b : World) : Prop := ∃ k cs cs', B ≤ k ∧ cs.size = n ∧ cs'.size = n ∧ Bk a k T cs ∧ Bk b k T cs' ∧ Kept (fun c => c = k) a b
theorem grow_below {w : World} {B g : Nat} (hB : B ≤ g) (cs : Array Value) : Below B w (w.setRow g cs) :=
  ⟨rfl, rfl, rfl, by simp, fun k hk => setRow_other w g k cs (by omega)⟩
section
variable {T T' : TypeId} {n n' B B' : Nat} {cs : Array Value} {v c : Value} {a b : World}
theorem BoxV.mono (h : BoxV T n B v a) (g : Gw a b) : BoxV T n B v b := by
  obtain ⟨k, cs, e, h1, h2, h3⟩ := h
  exact ⟨k, cs, e, h1, h2, h3.below g h3.lt⟩
theorem BoxC.mono (h : BoxC T cs B v a) (g : Gw a b) : BoxC T cs B v b := by
  obtain ⟨k, e, h1, h3⟩ := h
  exact ⟨k, e, h1, h3.below g h3.lt⟩
theorem StD.below {B0 : Nat} {w0 : World} (hB : B0 ≤ B) (h : Below B0 w0 a) (hs : B0 ≤ a.heap.size) (g : StD T n B a b) : Below B0 w0 b := by
  obtain ⟨k, _, _, h1, _, _, _, _, h2⟩ := g
  exact h.trans (h2.below hs (fun c e => by omega))
theorem IsV.st (h : IsV c v a) (_ : StD T n B a b) : IsV c v b := h
theorem bk_type {w : World} {k : Nat} {E F : TypeId} {x y : Array Value} (h1 : Bk w k E x) (h2 : Bk w k F y) : E = F ∧ x = y := by
  unfold Bk at h1 h2
  rw [h1] at h2
  injection h2 with h2
  injection h2 with h2 h3 _
  exact ⟨h3, h2⟩
theorem BoxV.st (h : BoxV T' n' B' v a) (g : StD T n B a b) : BoxV T' n' B' v b := by
  obtain ⟨k, x, e, h1, h2, h3⟩ := h
  obtain ⟨k', y, y', _, g2, g3, g4, g5, g6⟩ := g
  by_cases hk : k = k'
  · subst hk
    obtain ⟨e1, e2⟩ := bk_type h3 g4
    subst e1
    exact ⟨k, y', e, h1, by rw [g3, ← g2, ← e2, h2], g5⟩
  · exact ⟨k, x, e, h1, h2, g6.bk h3 hk⟩
theorem BoxC.st (hT : T' ≠ T) (h : BoxC T' cs B' v a) (g : StD T n B a b) : BoxC T' cs B' v b := by
  obtain ⟨k, e, h1, h3⟩ := h
  obtain ⟨k', y, y', _, g2, g3, g4, g5, g6⟩ := g
  refine ⟨k, e, h1, g6.bk h3 fun hk => ?_⟩
  subst hk
  exact hT (bk_type h3 g4).1
end
def LQ (K : Act → World → Prop) : Exit → Act → World → Prop
  | .normal, a, w => K a w
  | _, _, _ => False
theorem wp_of_list {P : Program} {o : Oper} {a : Act} {w : World} {K : Act → World → Prop} (hg : o.guard = none) (h : wpList P #[o] (LQ K) [o] a w) : Oper.wp P o a w K NoQ := by
  unfold wpList at h
  simp only [Region.wanted, hg, if_true] at h
  rcases h with h | ⟨_, h2⟩
  · unfold Oper.wp at h ⊢
    generalize (execOp a.eval o).run P w = r at *
    cases r with
    | ok n w' =>
      cases n <;> simp only [Oper.upon, wpList] at h ⊢
      case value u => exact h
      case skip => exact h
      case defer u => exact h
      case enter f args =>
        refine Calls.mono h fun e w'' he => ?_
        cases e with
        | returned u => exact he
        | panicked c => exact he.elim
        | outgrown => obtain ⟨_, _, hf⟩ := he; exact hf.elim
      case row row args => exact h
    | halt x w' =>
      cases x <;> simp only [Oper.upon] at h ⊢
      case panic u => exact h.elim
  · obtain ⟨_, _, h3⟩ := h2
    exact h3.elim
section
variable {P : Program} {ops : Array Oper} {Q : Exit → Act → World → Prop} {G : World → World → Prop} {F : Nat → Value → World → Prop} {a0 : Act} {w0 : World} {src : Nat → Nat}
theorem OwesG.mk2 {i : Nat} {D : World → World → Prop} {F' : Nat → Value → World → Prop} (hs0 : src i = i) (hF' : ∀ j v w, (src j = j → F j v w) → F' j v w) (hFi : ∀ v w, F' i v w → F i v w) (h : OwesD P ops Q G D F' a0 w0 i) : OwesG P ops Q G D F src a0 w0 i := by
  intro a w hG hd hs hF hR
  refine wpOp_mono ?_ (h a w hG hd hs (fun j hj => hF' j _ _ (hF j hj)) hR)
  rintro a' w' ⟨v, e, hg, hf⟩
  exact ⟨v, e, hg, by rw [if_pos hs0]; exact hFi _ _ hf⟩
theorem owes_box {i jp jv : Nat} {tp tv : Tmp} {T : TypeId} {n B : Nat} {cs : Array Value} {type : TypeId} (ho : (ops[i]?).map (fun o => (o.op, o.type)) = some (.store T (.tmp tp) (.tmp tv), type)) (hg : (ops[i]?).bind (·.guard) = none) (hdn : dstOf ops i = none)
    (hsee : seesB ops i [jp, jv] = true) (hsp : slotB ops [jp, jv] jp tp = true) (hsv : slotB ops [jp, jv] jv tv = true) (hlp : tp < a0.tmps.size) (hlv : tv < a0.tmps.size) (hs0 : src i ≠ i) (hsi : src i = jp) (h1 : src jp = jp) (h2 : src jv = jv)
    (hi : (P.info? T).map (·.size) = some cs.size) (hn : cs.size = n) (h1c : cs.all (·.oneCell') = true)
    (hFp : ∀ v w, F jp v w → BoxV T n B v w) (hFv : ∀ v w, F jv v w → v = .agg cs) (hFi : ∀ v w, BoxC T cs B v w → F i v w) : OwesG P ops Q G (StD T n B) F src a0 w0 i := by
  obtain ⟨o, e1, e2, e3⟩ := isOp_mk ho
  rw [e1] at hg
  have hd2 : o.dst = none := by unfold dstOf at hdn; rw [e1] at hdn; exact hdn
  refine OwesG.store [jp, jv] e1 hg hd2 hs0 (by rw [hsi]; exact .head _) ?_ hsee (by rw [e2]; trivial) fun vals w hG hF K hK => ?_
  · intro j hj
    simp only [List.mem_cons, List.not_mem_nil, or_false] at hj
    rcases hj with rfl | rfl
    · exact h1
    · exact h2
  · obtain ⟨k, old, ev, hB, hold, hbk⟩ := hFp _ _ (hF jp (by simp))
    have ec := hFv _ _ (hF jv (by simp))
    refine wp_of_list hg ?_
    refine wpList_store_row (rest := []) hg T (.tmp tp) (.tmp tv) e2 k cs ?_ ?_ T old hbk hi (by rw [hold, hn]) h1c ?_
    · show (putL ops vals [jp, jv] a0).tmps.getD tp undef = _
      rw [slotJ [jp, jv] hlp hsp, ev]
    · show (putL ops vals [jp, jv] a0).tmps.getD tv undef = _
      rw [slotJ [jp, jv] hlv hsv, ec]
    · show LQ K .normal _ _
      have hnew := setRow_heap w k old cs T (0, 0) hbk
      refine hK _ _ ⟨k, old, cs, hB, hold, hn, hbk, hnew, ?_⟩ ?_
      · exact ⟨(grow_below (Nat.le_refl _) cs).os, (grow_below (Nat.le_refl _) cs).tape, (grow_below (Nat.le_refl _) cs).output, (grow_below (Nat.le_refl _) cs).size, fun c _ hc => setRow_other w k c cs hc⟩
      · rw [hsi, ev]
        exact hFi _ _ ⟨k, rfl, hB, hnew⟩
end
end Go.Proofs.Ytbanbpphadgoiaa
/- A Carry in memory: both spaces, side by side. No conditions. -/
namespace Go.Proofs.Ytbanbpphadgoiaa
set_option linter.unusedVariables false
set_option linter.unusedSimpArgs false
open Go.RowKit Go.Maps
theorem MemAt.kept {S : Nat → Prop} {W W' : World} {B g : Nat} {v : Value} {ws : List (BitVec 64)} (h : Kept S W W') (m : MemAt W B g v ws) (hg : ¬ S g) (hv : ∀ k, v.ownBlock = some k → ¬ S k) : MemAt W' B g v ws := ⟨h.bk m.blk hg, m.ge, h.ow m.row hv, m.ne⟩
theorem SpAt.kept {S : Nat → Prop} {W W' : World} {B s g : Nat} {v : Value} {ws : List (BitVec 64)} {b t e : Nat} (h : Kept S W W') (p : SpAt W B s g v ws b t e) (hs : ¬ S s) (hg : ¬ S g) (hv : ∀ k, v.ownBlock = some k → ¬ S k) : SpAt W' B s g v ws b t e :=
  ⟨p.mem.kept h hg hv, h.bk p.blk hs, p.sg, p.sv, p.hs, p.bt, p.te, p.el⟩
theorem Two.kept {w w' : World} {s : Nat} {row : Option Nat} (h : Two w w' s row) : Kept (fun k => k = s ∨ some k = row) w w' :=
  ⟨h.os, h.tape, h.output, h.size, fun k hk hn => h.block k hk (fun e => hn (.inl e)) (fun e => hn (.inr e))⟩
/-- What carry turns. -/
def CyS (s2 : Nat) (v1 v2 : Value) (k : Nat) : Prop := k = s2 ∨ v1.ownBlock = some k ∨ v2.ownBlock = some k
structure CyAt (W : World) (B H1 H2 C s1 g1 : Nat) (v1 : Value) (s2 g2 : Nat) (v2 : Value) (b t e : Nat) (c : Cy) : Prop where
  blk : Bk W C 109 #[.pointer (some ⟨s1, 0, none⟩), .pointer (some ⟨s2, 0, none⟩)]
  fr : SpAt W H2 s1 g1 v1 c.F b t e
  to_ : SpAt W B s2 g2 v2 c.T 0 c.top c.T.length
  g2H : g2 < H1
  v2H : ∀ k, v2.ownBlock = some k → k < H1
  s2H : H1 ≤ H2 ∧ s2 < H2
  s1C : s1 < C
  g1C : g1 < C
  v1C : ∀ k, v1.ownBlock = some k → k < C
  HC : H2 ≤ C
  BH : B ≤ H1
section
variable {W W' : World} {B H1 H2 C s1 g1 : Nat} {v1 : Value} {s2 g2 : Nat} {v2 : Value} {b t e : Nat} {c d : Cy}
theorem MemAt.own_ge {g : Nat} {v : Value} {ws : List (BitVec 64)} (m : MemAt W B g v ws) : ∀ k, v.ownBlock = some k → B ≤ k := by
  intro k hk
  rcases m.row.2 with h | ⟨q, _, _, h, hq, _⟩
  · rw [h.1] at hk; cases hk
  · rw [h] at hk
    have : q = k := by injection hk
    omega
theorem CyAt.below (h : CyAt W B H1 H2 C s1 g1 v1 s2 g2 v2 b t e c) (hb : Below W.heap.size W W') : CyAt W' B H1 H2 C s1 g1 v1 s2 g2 v2 b t e c :=
  ⟨h.blk.below hb h.blk.lt, h.fr.below hb, h.to_.below hb, h.g2H, h.v2H, h.s2H, h.s1C, h.g1C, h.v1C, h.HC, h.BH⟩
/-- The new space alone is turned. -/
theorem CyAt.toT (h : CyAt W B H1 H2 C s1 g1 v1 s2 g2 v2 b t e c) (k : Two W W' s2 v2.ownBlock) (p : SpAt W' B s2 g2 v2 d.T 0 d.top d.T.length) (hF : d.F = c.F) : CyAt W' B H1 H2 C s1 g1 v1 s2 g2 v2 b t e d ∧ Kept (CyS s2 v1 v2) W W' := by
  have kk := k.kept
  have q1 := h.s2H
  have q2 := h.HC
  have q3 := h.fr.hs
  have q4 := h.fr.mem.ge
  have q5 := h.fr.mem.own_ge
  refine ⟨⟨kk.bk h.blk ?_, ?_, p, h.g2H, h.v2H, h.s2H, h.s1C, h.g1C, h.v1C, h.HC, h.BH⟩, kk.more ?_⟩
  · rintro (e | e)
    · omega
    · have := h.v2H _ e.symm; omega
  · rw [hF]
    refine h.fr.kept kk ?_ ?_ ?_
    · rintro (e | e)
      · omega
      · have := h.v2H _ e.symm; omega
    · rintro (e | e)
      · omega
      · have := h.v2H _ e.symm; omega
    · intro j hj
      have := q5 j hj
      rintro (e | e)
      · omega
      · have := h.v2H _ e.symm; omega
  · rintro j (e | e)
    · exact .inl e
    · exact .inr (.inr e.symm)
/-- The old words alone are turned. -/
theorem CyAt.toF (h : CyAt W B H1 H2 C s1 g1 v1 s2 g2 v2 b t e c) (m : MemAt W' H2 g1 v1 d.F) (k : W.grownBy W' v1.ownBlock) (hl : d.F.length = c.F.length) (hT : d.T = c.T ∧ d.top = c.top) : CyAt W' B H1 H2 C s1 g1 v1 s2 g2 v2 b t e d ∧ Kept (CyS s2 v1 v2) W W' := by
  have kk := Kept.grown k
  have q1 := h.s2H
  have q2 := h.HC
  have q3 := h.fr.hs
  have q4 := h.fr.mem.ge
  have q5 := h.fr.mem.own_ge
  refine ⟨⟨kk.bk h.blk ?_, h.fr.memTo m k hl, ?_, h.g2H, h.v2H, h.s2H, h.s1C, h.g1C, h.v1C, h.HC, h.BH⟩, kk.more ?_⟩
  · intro e
    have := h.v1C _ e
    omega
  · rw [hT.1, hT.2]
    refine h.to_.kept kk ?_ ?_ ?_
    · intro e; have := q5 _ e; omega
    · intro e; have := q5 _ e; have := h.g2H; omega
    · intro j hj e; have := q5 _ e; have := h.v2H _ hj; omega
  · intro j e
    exact .inr (.inl e)
theorem CyAt.keptC (h : CyAt W B H1 H2 C s1 g1 v1 s2 g2 v2 b t e c) : B ≤ W.heap.size ∧ (∀ k, CyS s2 v1 v2 k → B ≤ k) := by
  have := h.to_.hs
  have := h.to_.blk.lt
  have := h.BH
  have := h.s2H
  refine ⟨by omega, ?_⟩
  rintro k (e | e | e)
  · omega
  · have := h.fr.mem.own_ge _ e; omega
  · exact h.to_.mem.own_ge _ e
end
end Go.Proofs.Ytbanbpphadgoiaa
/- What crc.Add and crc.Sum answer. Conditions: at most 2^31 bytes. -/
namespace Go.Proofs.Ytbanbpphadgoiaa
set_option linter.unusedVariables false
set_option linter.unusedSimpArgs false
open Go.RowKit
def tabL : List (BitVec 32) := [0x00000000, 0x1db71064, 0x3b6e20c8, 0x26d930ac, 0x76dc4190, 0x6b6b51f4, 0x4db26158, 0x5005713c, 0xedb88320, 0xf00f9344, 0xd6d6a3e8, 0xcb61b38c, 0x9b64c2b0, 0x86d3d2d4, 0xa00ae278, 0xbdbdf21c]
def idx (r : BitVec 32) : Nat := (r &&& 15#32).toNat
def tab1 (i : Nat) : BitVec 32 := tabL.getD i 0
def turnC (r : BitVec 32) : BitVec 32 := (r >>> 4) ^^^ tab1 (idx r)
def stepC (r : BitVec 32) (x : BitVec 8) : BitVec 32 := turnC (turnC (r ^^^ x.setWidth 32))
def addC (s : BitVec 32) (bs : List (BitVec 8)) : BitVec 32 := ~~~ bs.foldl stepC (~~~ s)
def u32v (x : BitVec 32) : Value := .int .u32 (U32 x)
set_option maxHeartbeats 400000
end Go.Proofs.Ytbanbpphadgoiaa
