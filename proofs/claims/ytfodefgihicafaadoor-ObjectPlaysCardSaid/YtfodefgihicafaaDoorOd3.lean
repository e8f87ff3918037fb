/- Texts joined: ObE ObG ObF ObH TxZ ItA CardC SpJ. -/
import Derived.Test.YtfodefgihicafaaDoorOd2
import Derived.Test.YtfodefgihicafaaDoorLaid18
import Derived.Test.YtfodefgihicafaaDoorRegV
import Derived.Test.YtfodefgihicafaaDoorRegT
import Derived.Test.YtfodefgihicafaaDoorRegT2
import Derived.Test.YtfodefgihicafaaDoorAnyR
import Derived.Test.YtfodefgihicafaaDoorBdC
import Derived.Shelf.Strconv.Itoa3
import Derived.Test.YtfodefgihicafaaDoorRows
import Derived.Test.YtfodefgihicafaaDoorTie
import Derived.Test.YtfodefgihicafaaDoorCards
import Derived.Lib.LaidTab
import Derived.LaidMore
import Derived.SevenTiedAt
import Derived.Stop.LaidErr
/- obj.padded. Conditions: lengths. -/
namespace Go.Proofs.YtfodefgihicafaaDoor
set_option linter.unusedVariables false
set_option linter.unusedSimpArgs false
open Go.RowKit
def BtT (xs : List (BitVec 8)) (v : Value) (w : World) : Prop := ∃ A c, v = .tuple #[.slice A xs.length c, .int .i64 0] ∧ Rd b8 w w.heap.size A xs
theorem BtT.mono {xs : List (BitVec 8)} {v : Value} {a b : World} (h : BtT xs v a) (g : Below a.heap.size a b) : BtT xs v b := by
  obtain ⟨A, c, e, h⟩ := h
  exact ⟨A, c, e, (h.below g).more g.size⟩
def BtS (xs : List (BitVec 8)) (v : Value) (w : World) : Prop := ∃ A c, v = .slice A xs.length c ∧ Rd b8 w w.heap.size A xs
theorem BtS.mono {xs : List (BitVec 8)} {v : Value} {a b : World} (h : BtS xs v a) (g : Below a.heap.size a b) : BtS xs v b := by
  obtain ⟨A, c, e, h⟩ := h
  exact ⟨A, c, e, (h.below g).more g.size⟩
theorem bytes_k {W : World} {B g : Nat} {v : Value} {ws : List (BitVec 64)} {a n : Nat} {xs : List (BitVec 8)} (hx : bytesM ws a n = xs) (hi : a + n ≤ 8 * ws.length) (hl : ws.length ≤ 100000) (h : MemAt W B g v ws) :
    Calls Tryd.prog 35 #[.pointer (some ⟨g, 0, none⟩), .int .i64 a, .int .i64 n] W fun e w2 => ∃ u, e = .returned u ∧ Below W.heap.size W w2 ∧ BtT xs u w2 := by
  subst hx
  refine (bytes_in W B g v ws a n hi hl h).mono ?_
  rintro e w2 ⟨A, c, rfl, _, ho, b2⟩
  exact ⟨_, rfl, b2, A, c, rfl, ho.rd⟩
/-- Whether all is 0 behind an object's bytes. -/
def padB (ws : List (BitVec 64)) (J K : Nat) : Bool := (bytesM ws J K).all (· == 0#8)
set_option maxHeartbeats 1000000
set_option maxRecDepth 100000
theorem pad_r (Q : Exit → Act → World → Prop) (a0 : Act) (w : World) (s g H B a Z J K b t e : Nat) (P N : Int) (v : Value) (ws : List (BitVec 64)) (xs : List (BitVec 8)) (hk : Bk w H 60 #[.int .i64 P, .int .i64 N, .bool false, .int .i64 0]) (sp : Hid (SpAt w B s g v ws b t e)) (hz : Hid (sizeH P N false 0 = (Z : Int))) (hx : Hid (bytesM ws J K = xs)) (hr : Hid (J + K ≤ 8 * ws.length)) (hl : Hid (ws.length ≤ 100000)) (q1 : (a : Int) ≤ 100000) (q2 : (Z : Int) ≤ 1000) (q3 : (0 : Int) ≤ (a : Int)) (q4 : (0 : Int) ≤ (Z : Int)) (q5 : ((a : Int) + (Z : Int)) * 8 - (J : Int) = (K : Int)) (q6 : (K : Int) ≤ 1000) (q7 : (0 : Int) ≤ (J : Int)) (q8 : (J : Int) ≤ 1000000) (q9 : (0 : Int) ≤ (K : Int)) (hsz : a0.tmps.size = 48) (sl0 : a0.tmps.getD 0 undef = .pointer (some ⟨s, 0, none⟩)) (sl1 : a0.tmps.getD 1 undef = .int .i64 a) (sl5 : a0.tmps.getD 5 undef = .pointer (some ⟨H, 0, none⟩)) (sl7 : a0.tmps.getD 7 undef = .int .i64 J)
    (fin : ∀ (vals : Nat → Value) (w1 : World), Below w.heap.size w w1 → (BtS xs) (vals 16) w1 → (IsV (.int .i64 0)) (vals 17) w1 → Q .normal (putD vals [22, 23, 24, 25, 26, 27, 28, 29, 30, 31, 32, 33, 34, 21, 35, 36, 8, 9] 0 a0) w1) :
    (Code.region 2 (regIn Tryd.f44 2) true).wp Tryd.prog Q a0 w := by
  refine region_by (G := fun w w1 => Below w.heap.size w w1) [IsV (.pointer (some ⟨s, 0, none⟩)),
    IsV (.pointer (some ⟨s, 0, none⟩)),
    IsV (.pointer (some ⟨s, 0, none⟩)),
    IsV (.pointer (some ⟨g, 0, none⟩)),
    IsV (.int .i64 J),
    IsV (.int .i64 a),
    IsV (.agg #[.int .i64 P, .int .i64 N, .bool false, .int .i64 0]),
    IsV (.int .i64 Z),
    IsV (.int .i64 ((a : Int) + (Z : Int))),
    IsV (.int .i64 (((a : Int) + (Z : Int)) * 8)),
    IsV (.int .i64 J),
    IsV (.int .i64 K),
    BtT xs,
    BtT xs,
    BtS xs,
    IsV (.int .i64 0),
    BtS xs,
    IsV (.int .i64 0)]
    [22, 23, 24, 25, 26, 27, 28, 29, 30, 31, 32, 33, 34, 21, 35, 36, 8, 9] (by kernel_rfl) (Gw.drew _) Gw.trans (by rw [hsz]; kernel_rfl) (by kernel_rfl) ?_ ?_ ?_
  · intro f hf
    simp only [List.mem_cons, List.not_mem_nil, or_false] at hf
    rcases hf with rfl | rfl | rfl | rfl | rfl | rfl | rfl | rfl | rfl | rfl | rfl | rfl | rfl | rfl | rfl | rfl | rfl | rfl <;> intro v a b h g <;> first | exact IsV.mono h | exact BtT.mono h g | exact BtS.mono h g
  · refine ⟨?_, ?_, ?_, ?_, ?_, ?_, ?_, ?_, ?_, ?_, ?_, ?_, ?_, ?_, ?_, ?_, ?_, ?_, trivial⟩
    · exact owes_mv 0 (by kernel_rfl) (by kernel_rfl) (by kernel_rfl) sl0 (fun _ => rfl)
    · refine owes_v (Go.Op.nilCheck (Go.Operand.tmp 22)) 0 [0] (by kernel_rfl) (by kernel_rfl) (by kernel_rfl) rfl fun vals w1 ρ hG hF hρ hcst hfun => ?_
      have e22 : ρ (.tmp 22) = .pointer (some ⟨s, 0, none⟩) := ((hρ 22).trans (slotJ [0] (by rw [hsz]; decide) (by kernel_rfl))).trans (hF 0 (by decide))
      clear hρ hF hcst hfun sl0 sl1 sl5 sl7 fin
      exact opv_val (by go_simp <;> rfl) ⟨gw_self _, rfl⟩
    · refine owes_v (Go.Op.fieldAddr 65 (Go.Operand.tmp 23) 0) 0 [1] (by kernel_rfl) (by kernel_rfl) (by kernel_rfl) rfl fun vals w1 ρ hG hF hρ hcst hfun => ?_
      have e23 : ρ (.tmp 23) = .pointer (some ⟨s, 0, none⟩) := ((hρ 23).trans (slotJ [1] (by rw [hsz]; decide) (by kernel_rfl))).trans (hF 1 (by decide))
      clear hρ hF hcst hfun sl0 sl1 sl5 sl7 fin
      exact opv_val (by go_simp <;> rfl) ⟨gw_self _, rfl⟩
    · refine owes_v (Go.Op.load 53 (Go.Operand.tmp 24)) 53 [2] (by kernel_rfl) (by kernel_rfl) (by kernel_rfl) rfl fun vals w1 ρ hG hF hρ hcst hfun => ?_
      have e24 : ρ (.tmp 24) = .pointer (some ⟨s, 0, none⟩) := ((hρ 24).trans (slotJ [2] (by rw [hsz]; decide) (by kernel_rfl))).trans (hF 2 (by decide))
      have k := (sp.out.below hG).four.1
      clear hρ hF hcst hfun sl0 sl1 sl5 sl7 fin
      exact opv_val (by go_simp <;> rfl) ⟨gw_self _, rfl⟩
    · exact owes_mv 7 (by kernel_rfl) (by kernel_rfl) (by kernel_rfl) sl7 (fun _ => rfl)
    · exact owes_mv 1 (by kernel_rfl) (by kernel_rfl) (by kernel_rfl) sl1 (fun _ => rfl)
    · refine owes_v (Go.Op.load 60 (Go.Operand.tmp 5)) 60 [] (by kernel_rfl) (by kernel_rfl) (by kernel_rfl) rfl fun vals w1 ρ hG hF hρ hcst hfun => ?_
      have e5 : ρ (.tmp 5) = .pointer (some ⟨H, 0, none⟩) := ((hρ 5).trans (slotO [] (by kernel_rfl))).trans sl5
      obtain ⟨k1, k2, k3, k4⟩ := (hk.below hG hk.lt).four
      clear hρ hF hcst hfun sl0 sl1 sl5 sl7 fin
      exact opv_val (by go_simp <;> rfl) ⟨gw_self _, rfl⟩
    · refine owes_v (Go.Op.call { callee := Go.Callee.value (Go.Operand.func 60), args := #[Go.Operand.tmp 28], argTypes := #[60] }) 3 [6] (by kernel_rfl) (by kernel_rfl) (by kernel_rfl) rfl fun vals w1 ρ hG hF hρ hcst hfun => ?_
      have e28 : ρ (.tmp 28) = .agg #[.int .i64 P, .int .i64 N, .bool false, .int .i64 0] := ((hρ 28).trans (slotJ [6] (by rw [hsz]; decide) (by kernel_rfl))).trans (hF 6 (by decide))
      have kz := size_c P N false 0 w1
      rw [hz.out] at kz
      clear hρ hF hcst sl0 sl1 sl5 sl7 fin
      exact opv_enter (by go_simp <;> rfl) (of_rp kz)
    · refine owes_v (Go.Op.binOp Go.BinOp.add 3 (Go.Operand.tmp 27) (Go.Operand.tmp 29) 3) 3 [5, 7] (by kernel_rfl) (by kernel_rfl) (by kernel_rfl) rfl fun vals w1 ρ hG hF hρ hcst hfun => ?_
      have e27 : ρ (.tmp 27) = .int .i64 a := ((hρ 27).trans (slotJ [5, 7] (by rw [hsz]; decide) (by kernel_rfl))).trans (hF 5 (by decide))
      have e29 : ρ (.tmp 29) = .int .i64 Z := ((hρ 29).trans (slotJ [5, 7] (by rw [hsz]; decide) (by kernel_rfl))).trans (hF 7 (by decide))
      have kw0 : IntKind.i64.wrap (((a : Int) + (Z : Int))) = ((a : Int) + (Z : Int)) := wrapIn (by omega) (by omega)
      clear hρ hF hcst hfun sl0 sl1 sl5 sl7 fin
      exact opv_val (by go_simp <;> rfl) ⟨gw_self _, rfl⟩
    · refine owes_v (Go.Op.binOp Go.BinOp.mul 3 (Go.Operand.tmp 30) (Go.Operand.const (Go.Value.int Go.IntKind.i64 8)) 3) 3 [8] (by kernel_rfl) (by kernel_rfl) (by kernel_rfl) rfl fun vals w1 ρ hG hF hρ hcst hfun => ?_
      have e30 : ρ (.tmp 30) = .int .i64 ((a : Int) + (Z : Int)) := ((hρ 30).trans (slotJ [8] (by rw [hsz]; decide) (by kernel_rfl))).trans (hF 8 (by decide))
      have kw0 : IntKind.i64.wrap ((((a : Int) + (Z : Int)) * 8)) = (((a : Int) + (Z : Int)) * 8) := wrapIn (by omega) (by omega)
      clear hρ hF hfun sl0 sl1 sl5 sl7 fin
      exact opv_val (by go_simp <;> rfl) ⟨gw_self _, rfl⟩
    · exact owes_mv 7 (by kernel_rfl) (by kernel_rfl) (by kernel_rfl) sl7 (fun _ => rfl)
    · refine owes_v (Go.Op.binOp Go.BinOp.sub 3 (Go.Operand.tmp 31) (Go.Operand.tmp 32) 3) 3 [9, 10] (by kernel_rfl) (by kernel_rfl) (by kernel_rfl) rfl fun vals w1 ρ hG hF hρ hcst hfun => ?_
      have e31 : ρ (.tmp 31) = .int .i64 (((a : Int) + (Z : Int)) * 8) := ((hρ 31).trans (slotJ [9, 10] (by rw [hsz]; decide) (by kernel_rfl))).trans (hF 9 (by decide))
      have e32 : ρ (.tmp 32) = .int .i64 J := ((hρ 32).trans (slotJ [9, 10] (by rw [hsz]; decide) (by kernel_rfl))).trans (hF 10 (by decide))
      have kw0 : IntKind.i64.wrap ((K : Int)) = (K : Int) := wrapIn (by omega) (by omega)
      clear hρ hF hcst hfun sl0 sl1 sl5 sl7 fin
      exact opv_val (by go_simp <;> rfl) ⟨gw_self _, rfl⟩
    · refine owes_v (Go.Op.call { callee := Go.Callee.value (Go.Operand.func 35), args := #[Go.Operand.tmp 25, Go.Operand.tmp 26, Go.Operand.tmp 33], argTypes := #[53, 3, 3] }) 40 [3, 4, 11] (by kernel_rfl) (by kernel_rfl) (by kernel_rfl) rfl fun vals w1 ρ hG hF hρ hcst hfun => ?_
      have e25 : ρ (.tmp 25) = .pointer (some ⟨g, 0, none⟩) := ((hρ 25).trans (slotJ [3, 4, 11] (by rw [hsz]; decide) (by kernel_rfl))).trans (hF 3 (by decide))
      have e26 : ρ (.tmp 26) = .int .i64 J := ((hρ 26).trans (slotJ [3, 4, 11] (by rw [hsz]; decide) (by kernel_rfl))).trans (hF 4 (by decide))
      have e33 : ρ (.tmp 33) = .int .i64 K := ((hρ 33).trans (slotJ [3, 4, 11] (by rw [hsz]; decide) (by kernel_rfl))).trans (hF 11 (by decide))
      clear hρ hF hcst sl0 sl1 sl5 sl7 fin
      exact opv_enter (by go_simp <;> rfl) (bytes_k hx.out hr.out hl.out (sp.out.below hG).mem)
    · exact owes_mvj 12 34 (by kernel_rfl) (by kernel_rfl) (by kernel_rfl) (by kernel_rfl) (by rw [hsz]; decide) (fun v w h => h)
    · refine owes_v (Go.Op.extract (Go.Operand.tmp 21) 0) 30 [13] (by kernel_rfl) (by kernel_rfl) (by kernel_rfl) rfl fun vals w1 ρ hG hF hρ hcst hfun => ?_
      have f21 : (BtT xs) (vals 13) w1 := hF 13 (by decide)
      have e21 : ρ (.tmp 21) = vals 13 := (hρ 21).trans (slotJ [13] (by rw [hsz]; decide) (by kernel_rfl))
      obtain ⟨A, c, hx0, hrd⟩ := f21
      rw [hx0] at e21
      clear hρ hF hcst hfun sl0 sl1 sl5 sl7 fin
      exact opv_val (by go_simp <;> rfl) ⟨gw_self _, ⟨A, c, rfl, hrd⟩⟩
    · refine owes_v (Go.Op.extract (Go.Operand.tmp 21) 1) 33 [13] (by kernel_rfl) (by kernel_rfl) (by kernel_rfl) rfl fun vals w1 ρ hG hF hρ hcst hfun => ?_
      have f21 : (BtT xs) (vals 13) w1 := hF 13 (by decide)
      have e21 : ρ (.tmp 21) = vals 13 := (hρ 21).trans (slotJ [13] (by rw [hsz]; decide) (by kernel_rfl))
      obtain ⟨A, c, hx0, hrd⟩ := f21
      rw [hx0] at e21
      clear hρ hF hcst hfun sl0 sl1 sl5 sl7 fin
      exact opv_val (by go_simp <;> rfl) ⟨gw_self _, rfl⟩
    · exact owes_mvj 14 35 (by kernel_rfl) (by kernel_rfl) (by kernel_rfl) (by kernel_rfl) (by rw [hsz]; decide) (fun v w h => h)
    · exact owes_mvj 15 36 (by kernel_rfl) (by kernel_rfl) (by kernel_rfl) (by kernel_rfl) (by rw [hsz]; decide) (fun v w h => h)
  · intro vals w1 hG hF
    exact fin vals w1 hG (hF 16 (by decide +kernel)) (hF 17 (by decide +kernel))
theorem padded_c (w : World) (B s g : Nat) (v : Value) (ws : List (BitVec 64)) (b t e : Nat) (p : SpAt w B s g v ws b t e) (hl : ws.length ≤ 100000) (a : Nat) (h2 : a < t) (hg : goodX (ws.getD a 0#64) (t - a) = true) :
    Calls Tryd.prog 44 #[.pointer (some ⟨s, 0, none⟩), .int .i64 a, .agg #[.int .i64 (P0 (ws.getD a 0#64) : Int), .int .i64 (B0 (ws.getD a 0#64) : Int), .bool false, .int .i64 0]] w (RetP (.bool (padB ws (8 * (a + 1 + P0 (ws.getD a 0#64)) + B0 (ws.getD a 0#64)) (8 * (a + szX (ws.getD a 0#64)) - (8 * (a + 1 + P0 (ws.getD a 0#64)) + B0 (ws.getD a 0#64))))) w) := by
  obtain ⟨_, hP, hN, hsz, hsh, hroom⟩ := head_of hg
  obtain ⟨P, hP'⟩ : ∃ P, P = P0 (ws.getD a 0#64) := ⟨_, rfl⟩
  obtain ⟨N, hN'⟩ : ∃ P, P = B0 (ws.getD a 0#64) := ⟨_, rfl⟩
  obtain ⟨Z, hZ'⟩ : ∃ P, P = szX (ws.getD a 0#64) := ⟨_, rfl⟩
  rw [← hP'] at hP
  rw [← hN'] at hN
  rw [← hP', ← hN', ← hZ'] at hsz hsh
  rw [← hZ'] at hroom
  rw [← hP', ← hN', ← hZ']
  have htw : t ≤ ws.length := Nat.le_trans p.te p.el
  obtain ⟨J, hJ⟩ : ∃ J, J = 8 * (a + 1 + P) + N := ⟨_, rfl⟩
  obtain ⟨K, hK⟩ : ∃ K, K = 8 * (a + Z) - J := ⟨_, rfl⟩
  rw [← hJ, ← hK]
  unfold padB
  obtain ⟨xs, hxs⟩ : ∃ xs, bytesM ws J K = xs := ⟨_, rfl⟩
  rw [hxs]
  have hxl : xs.length = K := by rw [← hxs]; simp [bytesM]
  obtain ⟨R, hR⟩ : ∃ R, R = xs.all (· == 0#8) := ⟨_, rfl⟩
  rw [← hR]
  have HRR := Lib.hid hR
  clear hR
  have q0 : ((a : Int) + 1 + (P : Int)) * 8 + (N : Int) = (J : Int) := by omega
  have HQ := Lib.hid (show (a : Int) ≤ 100000 ∧ (Z : Int) ≤ 1000 ∧ ((a : Int) + (Z : Int)) * 8 - (J : Int) = (K : Int) ∧ (K : Int) ≤ 1000 ∧ (J : Int) ≤ 1000000 ∧ J + K ≤ 8 * ws.length from by omega)
  have HX := Lib.hid hxs
  have HS := Lib.hid hsh
  have HL := Lib.hid hl
  have HXl := Lib.hid hxl
  have HP := Lib.hid p
  have q1 : (a : Int) ≤ 100000 := by omega
  have q2 : (P : Int) ≤ 64 := by omega
  have q3 : (N : Int) ≤ 1024 := by omega
  have q4 : (0 : Int) ≤ (a : Int) := by omega
  have q5 : (0 : Int) ≤ (P : Int) := by omega
  have q6 : (0 : Int) ≤ (N : Int) := by omega
  have HQ0 := Lib.hid q0
  clear p hl h2 hg hP hN hsz hsh hroom hP' hN' hZ' htw hJ hK hxs hxl q0
  go_enter Tryd.func44, Tryd.ntmps44
  go_wp2_with fail
  rw [HQ0.out]
  obtain ⟨w1, hw1⟩ : ∃ w1, w1 = w.alloc (.cells #[.int .i64 P, .int .i64 N, .bool false, .int .i64 0] 60) := ⟨_, rfl⟩
  have hb1 : Below w.heap.size w w1 := by rw [hw1]; exact Gw.alloc w _
  have hk1 : Bk w1 w.heap.size 60 #[.int .i64 P, .int .i64 N, .bool false, .int .i64 0] := by rw [hw1]; exact Bk.new w _ _
  rw [← hw1]
  have HB1 := Lib.hid hb1
  refine pad_r _ _ _ s g w.heap.size B a Z J K b t e P N v ws xs hk1 (Lib.hid (HP.out.below hb1)) HS HX (Lib.hid HQ.out.2.2.2.2.2) HL HQ.out.1 HQ.out.2.1 (Int.natCast_nonneg _) (Int.natCast_nonneg _) HQ.out.2.2.1 HQ.out.2.2.2.1 (Int.natCast_nonneg _) HQ.out.2.2.2.2.1 (Int.natCast_nonneg _) rfl rfl rfl rfl rfl ?_
  intro vals w2 hG h8 h9
  obtain ⟨A, c, e8, hrd⟩ := h8
  unfold IsV at h9
  simp only [putD, Act.put, List.setIfInBounds_toArray, List.set_cons_zero, List.set_cons_succ, e8, h9]
  rw [HXl.out]
  have HB2 := Lib.hid (HB1.out.trans (hG.mono HB1.out.size))
  have HR := Lib.hid hrd
  have qK : (K : Int) ≤ 1000 := HQ.out.2.2.2.1
  clear hG e8 h9 hrd hk1 hw1 hb1
  go_wp2_with fail
  go_loopw [41, 11] (fun i y W => ∃ k : Nat, i = .int .i64 k ∧ k ≤ K ∧ Hid ((xs.take k).all (· == 0#8) = true) ∧ W = w2) (fun i _ _ => K - (Go.RowKit.intOf i).toNat)
  case atStart => exact ⟨0, rfl, Nat.zero_le _, Lib.hid rfl, rfl⟩
  case round =>
    obtain ⟨k, rfl, hk, hz, rfl⟩ := hrel
    by_cases hlt : k < K
    · have hkx : k < xs.length := by rw [HXl.out]; exact hlt
      obtain ⟨y, hy⟩ : ∃ y, y = xs[k] := ⟨_, rfl⟩
      obtain ⟨ad, rfl, _, hc⟩ := HR.out k hkx
      rw [← hy] at hc
      unfold b8 at hc
      have p1 : (0 : Int) ≤ (k : Int) := by omega
      have p2 : (k : Int) < (K : Int) := by omega
      by_cases hy0 : y = 0#8
      · have hU : U8 y = 0 := by rw [hy0]; decide +kernel
        rw [hU] at hc
        have HZ := Lib.hid (show (xs.take (k + 1)).all (· == 0#8) = true from by
          rw [List.take_succ_eq_append_getElem hkx, List.all_append, hz.out, ← hy, hy0]; rfl)
        clear hy hU hy0 hkx
        go_wp2_with fail
        clear hc
        go_roundw
        case rel => first | exact ⟨k + 1, by go_num, by omega, HZ, rfl⟩ | exact ⟨k + 1, by go_num, by omega, HZ, trivial⟩ | exact ⟨k + 1, by go_num, by omega, HZ⟩
        case measure => simp [Go.RowKit.intOf]; omega
      · have hU1 : (U8 y == 0) = false := by
          have : U8 y ≠ 0 := fun e => hy0 (by
            unfold U8 at e
            exact BitVec.eq_of_toNat_eq (by simpa using e))
          simpa using this
        have hU2 : (U8 y != 0) = true := by unfold bne; rw [hU1]; rfl
        have hRf : R = false := by
          rw [HRR.out]
          cases h : xs.all (· == 0#8) with
          | false => rfl
          | true =>
            have := List.all_eq_true.1 h y (by rw [hy]; exact List.getElem_mem _)
            exact absurd (by simpa using this) hy0
        subst hRf
        clear hy hy0 hkx
        go_wp2_with fail
        go_ret
        exact ⟨rfl, HB2.out⟩
    · have hkK : k = K := by omega
      have hRt : R = true := by
        rw [HRR.out, ← hz.out, hkK, List.take_of_length_le (by rw [HXl.out]; exact Nat.le_refl _)]
      subst hRt
      clear hz hkK
      go_wp2_with fail
      go_ret
      exact ⟨rfl, HB2.out⟩
end Go.Proofs.YtfodefgihicafaaDoor
/- obj.Text at an object of one pointer and three bytes (as loamlaw16.known asks). Conditions: the table deBruijn64tab. -/
namespace Go.Proofs.YtfodefgihicafaaDoor
set_option linter.unusedVariables false
set_option linter.unusedSimpArgs false
open Go.RowKit
set_option maxHeartbeats 1000000
set_option maxRecDepth 100000
theorem itoa_r (i : Nat) (hi : i < 10) (w : World) : Calls Tryd.prog 51 #[.int .i64 i] w (RetP (.string (strB [BitVec.ofNat 8 (48 + i)])) w) :=
  (itoa_c i hi w).mono fun _ _ h => ⟨h.1, h.2 ▸ Below.refl _ _⟩
theorem addS1 : strB [49#8] ++ ⟨#[32]⟩ = strB [49#8, 32#8] := rfl
theorem addS2 : strB [49#8, 32#8] ++ strB [51#8] = strB [49#8, 32#8, 51#8] := rfl
theorem addS3 : strB [49#8, 32#8, 51#8] ++ ⟨#[58]⟩ = strB [49#8, 32#8, 51#8, 58#8] := rfl
theorem addS4 : ⟨#[32]⟩ ++ strB [48#8] = strB [32#8, 48#8] := rfl
theorem tx_r (Q : Exit → Act → World → Prop) (a0 : Act) (w : World) (hb bd : Nat) (hh : hb < w.heap.size) (c0 : w.cell? ⟨hb, 0, none⟩ = some (.int .i64 1)) (c1 : w.cell? ⟨hb, 1, none⟩ = some (.int .i64 3)) (hsz : a0.tmps.size = 90) (sl5 : a0.tmps.getD 5 undef = .pointer (some ⟨hb, 0, none⟩))
    (fin : ∀ (vals : Nat → Value) (w1 : World), Below w.heap.size w w1 → (IsV (.string (strB [49#8, 32#8, 51#8, 58#8]))) (vals 8) w1 → wpList Tryd.prog #[{ dst := some 33, op := Go.Op.call { callee := Go.Callee.value (Go.Operand.func 50), args := #[Go.Operand.tmp 7, Go.Operand.tmp 32], argTypes := #[101, 9] }, type := 104, pos := "", after := #[], guard := none }] Q [{ dst := some 33, op := Go.Op.call { callee := Go.Callee.value (Go.Operand.func 50), args := #[Go.Operand.tmp 7, Go.Operand.tmp 32], argTypes := #[101, 9] }, type := 104, pos := "", after := #[], guard := none }] (putD vals [24, 25, 26, 27, 28, 29, 30, 31, 32] 0 a0) w1) :
    (Code.region 5 (regIn Tryd.f20 5) true).wp Tryd.prog Q a0 w := by
  refine region_by_tail (m := 9) (G := fun w w1 => Below w.heap.size w w1) [IsV (.pointer (some ⟨hb, 0, none⟩)),
    IsV (.int .i64 1),
    IsV (.string (strB [49#8])),
    IsV (.string (strB [49#8, 32#8])),
    IsV (.pointer (some ⟨hb, 1, none⟩)),
    IsV (.int .i64 3),
    IsV (.string (strB [51#8])),
    IsV (.string (strB [49#8, 32#8, 51#8])),
    IsV (.string (strB [49#8, 32#8, 51#8, 58#8]))]
    [24, 25, 26, 27, 28, 29, 30, 31, 32] (by kernel_rfl) (Gw.drew _) Gw.trans (by rw [hsz]; kernel_rfl) (by kernel_rfl) ?_ ?_ ?_
  · intro f hf
    simp only [List.mem_cons, List.not_mem_nil, or_false] at hf
    rcases hf with rfl | rfl | rfl | rfl | rfl | rfl | rfl | rfl | rfl <;> intro v a b h g <;> first | exact IsV.mono h
  · refine ⟨?_, ?_, ?_, ?_, ?_, ?_, ?_, ?_, ?_, trivial⟩
    · refine owes_v (Go.Op.fieldAddr 60 (Go.Operand.tmp 5) 0) 0 [] (by kernel_rfl) (by kernel_rfl) (by kernel_rfl) rfl fun vals w1 ρ hG hF hρ hcst hfun => ?_
      have e5 : ρ (.tmp 5) = .pointer (some ⟨hb, 0, none⟩) := ((hρ 5).trans (slotO [] (by kernel_rfl))).trans sl5
      clear hρ hF hcst hfun sl5 fin
      exact opv_val (by go_simp <;> rfl) ⟨gw_self _, rfl⟩
    · refine owes_v (Go.Op.load 3 (Go.Operand.tmp 24)) 3 [0] (by kernel_rfl) (by kernel_rfl) (by kernel_rfl) rfl fun vals w1 ρ hG hF hρ hcst hfun => ?_
      have e24 : ρ (.tmp 24) = .pointer (some ⟨hb, 0, none⟩) := ((hρ 24).trans (slotJ [0] (by rw [hsz]; decide) (by kernel_rfl))).trans (hF 0 (by decide))
      have k := (hG.cell (p := ⟨hb, 0, none⟩) hh).trans c0
      clear hρ hF hcst hfun sl5 fin
      exact opv_val (by go_simp <;> rfl) ⟨gw_self _, rfl⟩
    · refine owes_v (Go.Op.call { callee := Go.Callee.value (Go.Operand.func 51), args := #[Go.Operand.tmp 25], argTypes := #[3] }) 9 [1] (by kernel_rfl) (by kernel_rfl) (by kernel_rfl) rfl fun vals w1 ρ hG hF hρ hcst hfun => ?_
      have e25 : ρ (.tmp 25) = .int .i64 1 := ((hρ 25).trans (slotJ [1] (by rw [hsz]; decide) (by kernel_rfl))).trans (hF 1 (by decide))
      clear hρ hF hcst sl5 fin
      exact opv_enter (by go_simp <;> rfl) (of_ret (itoa_r 1 (by decide) _))
    · refine owes_v (Go.Op.binOp Go.BinOp.add 9 (Go.Operand.tmp 26) (Go.Operand.const (Go.Value.string { data := #[32] })) 9) 9 [2] (by kernel_rfl) (by kernel_rfl) (by kernel_rfl) rfl fun vals w1 ρ hG hF hρ hcst hfun => ?_
      have e26 : ρ (.tmp 26) = .string (strB [49#8]) := ((hρ 26).trans (slotJ [2] (by rw [hsz]; decide) (by kernel_rfl))).trans (hF 2 (by decide))
      have k := addS1; have k2 : (strB [49#8]).size = 1 := rfl
      clear hρ hF hfun sl5 fin
      exact opv_val (by go_simp <;> rfl) ⟨gw_self _, rfl⟩
    · refine owes_v (Go.Op.fieldAddr 60 (Go.Operand.tmp 5) 1) 0 [] (by kernel_rfl) (by kernel_rfl) (by kernel_rfl) rfl fun vals w1 ρ hG hF hρ hcst hfun => ?_
      have e5 : ρ (.tmp 5) = .pointer (some ⟨hb, 0, none⟩) := ((hρ 5).trans (slotO [] (by kernel_rfl))).trans sl5
      clear hρ hF hcst hfun sl5 fin
      exact opv_val (by go_simp <;> rfl) ⟨gw_self _, rfl⟩
    · refine owes_v (Go.Op.load 3 (Go.Operand.tmp 28)) 3 [4] (by kernel_rfl) (by kernel_rfl) (by kernel_rfl) rfl fun vals w1 ρ hG hF hρ hcst hfun => ?_
      have e28 : ρ (.tmp 28) = .pointer (some ⟨hb, 1, none⟩) := ((hρ 28).trans (slotJ [4] (by rw [hsz]; decide) (by kernel_rfl))).trans (hF 4 (by decide))
      have k := (hG.cell (p := ⟨hb, 1, none⟩) hh).trans c1
      clear hρ hF hcst hfun sl5 fin
      exact opv_val (by go_simp <;> rfl) ⟨gw_self _, rfl⟩
    · refine owes_v (Go.Op.call { callee := Go.Callee.value (Go.Operand.func 51), args := #[Go.Operand.tmp 29], argTypes := #[3] }) 9 [5] (by kernel_rfl) (by kernel_rfl) (by kernel_rfl) rfl fun vals w1 ρ hG hF hρ hcst hfun => ?_
      have e29 : ρ (.tmp 29) = .int .i64 3 := ((hρ 29).trans (slotJ [5] (by rw [hsz]; decide) (by kernel_rfl))).trans (hF 5 (by decide))
      clear hρ hF hcst sl5 fin
      exact opv_enter (by go_simp <;> rfl) (of_ret (itoa_r 3 (by decide) _))
    · refine owes_v (Go.Op.binOp Go.BinOp.add 9 (Go.Operand.tmp 27) (Go.Operand.tmp 30) 9) 9 [3, 6] (by kernel_rfl) (by kernel_rfl) (by kernel_rfl) rfl fun vals w1 ρ hG hF hρ hcst hfun => ?_
      have e27 : ρ (.tmp 27) = .string (strB [49#8, 32#8]) := ((hρ 27).trans (slotJ [3, 6] (by rw [hsz]; decide) (by kernel_rfl))).trans (hF 3 (by decide))
      have e30 : ρ (.tmp 30) = .string (strB [51#8]) := ((hρ 30).trans (slotJ [3, 6] (by rw [hsz]; decide) (by kernel_rfl))).trans (hF 6 (by decide))
      have k := addS2; have k2 : (strB [49#8, 32#8]).size = 2 := rfl; have k3 : (strB [51#8]).size = 1 := rfl
      clear hρ hF hcst hfun sl5 fin
      exact opv_val (by go_simp <;> rfl) ⟨gw_self _, rfl⟩
    · refine owes_v (Go.Op.binOp Go.BinOp.add 9 (Go.Operand.tmp 31) (Go.Operand.const (Go.Value.string { data := #[58] })) 9) 9 [7] (by kernel_rfl) (by kernel_rfl) (by kernel_rfl) rfl fun vals w1 ρ hG hF hρ hcst hfun => ?_
      have e31 : ρ (.tmp 31) = .string (strB [49#8, 32#8, 51#8]) := ((hρ 31).trans (slotJ [7] (by rw [hsz]; decide) (by kernel_rfl))).trans (hF 7 (by decide))
      have k := addS3; have k2 : (strB [49#8, 32#8, 51#8]).size = 3 := rfl
      clear hρ hF hfun sl5 fin
      exact opv_val (by go_simp <;> rfl) ⟨gw_self _, rfl⟩
  · intro vals w1 hG hF
    exact last_list (by kernel_rfl) (by kernel_rfl) (by kernel_rfl) (fin vals w1 hG (hF 8 (by decide +kernel)))
/-- A builder and a row of bytes beside it. -/
structure TxS (W : World) (B bd : Nat) (v : Value) (xs : List (BitVec 8)) (q : Nat) (bs : List (BitVec 8)) : Prop where
  at_ : BdAt W B bd v xs
  hB : B ≤ W.heap.size
  lt : q < W.heap.size
  rd : ∀ (j : Nat) (h : j < bs.length), W.cell? ⟨q, j, none⟩ = some (b8 bs[j])
  ne : q ≠ bd
  no : v.ownBlock ≠ some q
theorem TxS.step {w w' : World} {B bd q : Nat} {v v' : Value} {xs ys bs : List (BitVec 8)} (h : TxS w B bd v xs q bs) (h2 : BdAt w' B bd v' ys) (k : BdK w w' bd v v') : TxS w' B bd v' ys q bs := by
  refine ⟨h2, Nat.le_trans h.hB k.two.size, Nat.lt_of_lt_of_le h.lt k.two.size, fun j hj => ?_, h.ne, ?_⟩
  · rw [← h.rd j hj]
    have hb := k.two.block q h.lt h.ne (fun e => h.no e.symm)
    unfold World.cell?
    simp only
    rw [hb]
  · rcases k.row with e | ⟨m, e, hm⟩
    · rw [e]; exact h.no
    · rw [e]; intro e2; injection e2 with e2; have := h.lt; omega
theorem TxS.below {w w' : World} {B bd q : Nat} {v : Value} {xs bs : List (BitVec 8)} (h : TxS w B bd v xs q bs) (k : Below w.heap.size w w') : TxS w' B bd v xs q bs :=
  ⟨h.at_.below k, Nat.le_trans h.hB k.size, Nat.lt_of_lt_of_le h.lt k.size, fun j hj => (k.cell (p := ⟨q, j, none⟩) h.lt).trans (h.rd j hj), h.ne, h.no⟩
theorem ws_q (w : World) (B b q : Nat) (v : Value) (xs ys zs bs : List (BitVec 8)) (sv : ByteArray) (hs : sv = strB ys) (hz : zs = xs ++ ys) (h : TxS w B b v xs q bs) (hl : xs.length + ys.length ≤ 4294967296) :
    Calls Tryd.prog 50 #[.pointer (some ⟨b, 0, none⟩), .string sv] w fun e w' => (∃ n v', e = .returned (.tuple #[.int .i64 n, .nilIface]) ∧ TxS w' B b v' zs q bs) ∧ Below B w w' := by
  subst hs hz
  refine (writeString_c w B b v xs ys h.at_ hl h.hB).mono ?_
  rintro e w' ⟨v', rfl, h2, k⟩
  exact ⟨⟨_, v', rfl, h.step h2 k⟩, h.at_.kb k h.hB⟩
theorem wb_q (w : World) (B b q : Nat) (v : Value) (xs bs : List (BitVec 8)) (c : BitVec 8) (h : TxS w B b v xs q bs) (hl : xs.length + 1 ≤ 4294967296) :
    Calls Tryd.prog 52 #[.pointer (some ⟨b, 0, none⟩), .int .u8 (U8 c)] w fun e w' => (∃ v', e = .returned .nilIface ∧ TxS w' B b v' (xs ++ [c]) q bs) ∧ Below B w w' := by
  refine (writeByte_c w B b v xs c h.at_ hl h.hB).mono ?_
  rintro e w' ⟨v', rfl, h2, k⟩
  exact ⟨⟨v', rfl, h.step h2 k⟩, h.at_.kb k h.hB⟩
theorem bd_new (w : World) : BdAt (w.alloc (.cells #[.pointer none, .slice none 0 0] 101)) w.heap.size w.heap.size (.slice none 0 0) [] :=
  ⟨Nat.le_refl _, ⟨_, .inl rfl, Bk.new w _ _⟩, ⟨rfl, .inl ⟨rfl, rfl⟩⟩⟩
theorem ws_0 (w : World) (B b : Nat) (v : Value) (xs ys zs : List (BitVec 8)) (hz : zs = xs ++ ys) (h : BdAt w B b v xs) (hB : B ≤ w.heap.size) (hl : xs.length + ys.length ≤ 4294967296) :
    Calls Tryd.prog 50 #[.pointer (some ⟨b, 0, none⟩), .string (strB ys)] w fun e w' => (∃ n v', e = .returned (.tuple #[.int .i64 n, .nilIface]) ∧ BdAt w' B b v' zs) ∧ Below B w w' := by
  subst hz
  refine (writeString_c w B b v xs ys h hl hB).mono ?_
  rintro e w' ⟨v', rfl, h2, k⟩
  exact ⟨⟨_, v', rfl, h2⟩, h.kb k hB⟩
theorem fuk (w : World) (x : BitVec 8) (h : w.cell? ⟨2, 15, none⟩ = some (.int .u8 4)) (ys : List (BitVec 8)) (hy : [hexU (x.toNat / 16), hexU (x.toNat % 16)] = ys) :
    Calls Tryd.prog 53 #[.int .u64 (bits .or .u64 256 (U8 x)), .int .i64 16] w (RetP (.string (strB (49#8 :: ys))) w) := by
  subst hy
  exact fu_c w h x
/-- What is told of the object. -/
structure TxP (w : World) (s : Nat) (a : Int) : Prop where
  look : ∀ W, Below w.heap.size w W → Calls Tryd.prog 43 #[.pointer (some ⟨s, 0, none⟩), .int .i64 a] W (RetP (.tuple #[.agg #[.int .i64 1, .int .i64 3, .bool false, .int .i64 0], .int .i64 0]) W)
  ptr : ∀ W, Below w.heap.size w W → Calls Tryd.prog 9 #[.pointer (some ⟨s, 0, none⟩), .int .i64 a, .int .i64 0] W (RetP (.tuple #[.int .i64 0, .int .i64 0]) W)
  read : ∀ W, Below w.heap.size w W → Calls Tryd.prog 13 #[.pointer (some ⟨s, 0, none⟩), .int .i64 a, .int .i64 0, .int .i64 3] W (MkEP b8 5 [0#8, 120#8, 0#8] 0 W)
  tab : w.cell? ⟨2, 15, none⟩ = some (.int .u8 4)
theorem text_k (w : World) (s : Nat) (a : Int) (h : TxP w s a) :
    Calls Tryd.prog 20 #[.pointer (some ⟨s, 0, none⟩), .int .i64 a] w (RetP (.string (strB [49#8, 32#8, 51#8, 58#8, 32#8, 48#8, 32#8, 48#8, 48#8, 55#8, 56#8, 48#8, 48#8])) w) := by
  have H := Lib.hid h
  have h2w : 2 < w.heap.size := by
    have h := h.tab
    unfold World.cell? at h
    cases hh : w.heap[2]? with
    | none => rw [hh] at h; cases h
    | some o => exact (Array.getElem?_eq_some_iff.1 hh).1
  have H2 := Lib.hid h2w
  clear h h2w
  go_enter Tryd.func20, Tryd.ntmps20
  go_wp2_with fail
  refine Calls.mono (H.out.look w (Below.refl _ _)) ?_
  rintro e w1 ⟨rfl, hb1⟩
  have HB1 := Lib.hid hb1
  clear hb1
  go_wp2_with fail
  have hsz1 : (w1.alloc (.cells #[.int .i64 1, .int .i64 3, .bool false, .int .i64 0] 60)).heap.size = w1.heap.size + 1 := World.size_alloc _ _
  have hbn := bd_new (w1.alloc (.cells #[.int .i64 1, .int .i64 3, .bool false, .int .i64 0] 60))
  rw [hsz1] at hbn
  have hkb := (Bk.new w1 60 #[.int .i64 1, .int .i64 3, .bool false, .int .i64 0]).alloc (.cells #[.pointer none, .slice none 0 0] 101)
  have hbl := HB1.out.trans (((Gw.alloc w1 (.cells #[.int .i64 1, .int .i64 3, .bool false, .int .i64 0] 60)).trans ((Gw.alloc _ (.cells #[.pointer none, .slice none 0 0] 101)).mono (Gw.alloc w1 _).size)).mono HB1.out.size)
  have hs2 : w1.heap.size + 1 ≤ ((w1.alloc (.cells #[.int .i64 1, .int .i64 3, .bool false, .int .i64 0] 60)).alloc (.cells #[.pointer none, .slice none 0 0] 101)).heap.size := by
    rw [World.size_alloc, hsz1]; omega
  clear hsz1
  generalize ((w1.alloc (.cells #[.int .i64 1, .int .i64 3, .bool false, .int .i64 0] 60)).alloc (.cells #[.pointer none, .slice none 0 0] 101)) = w2 at hbn hkb hbl hs2 ⊢
  obtain ⟨q, hq⟩ : ∃ q, q = w1.heap.size := ⟨_, rfl⟩
  have hqw : w.heap.size ≤ q := by rw [hq]; exact HB1.out.size
  rw [← hq] at hbn hkb hs2 ⊢
  clear hq HB1
  have HQ := Lib.hid hqw
  have HK := Lib.hid hkb
  have HL := Lib.hid hbl
  have HN := Lib.hid hbn
  have HS := Lib.hid hs2
  clear hbn hkb hbl hs2 hqw
  refine tx_r _ _ _ q (q + 1) (by have := HS.out; omega) (HK.out.cell 0) (HK.out.cell 1) ?_ ?_ ?_
  · rfl
  · rfl
  intro vals w3 hG h32
  unfold IsV at h32
  simp only [putD, Act.put, List.setIfInBounds_toArray, List.set_cons_zero, List.set_cons_succ, h32]
  have HN3 := Lib.hid (HN.out.below hG)
  have HK3 := Lib.hid (HK.out.below hG HK.out.lt)
  have HL3 := Lib.hid (HL.out.trans (hG.mono HL.out.size))
  have HS3 := Lib.hid (Nat.le_trans HS.out hG.size)
  clear hG h32
  go_wp2_with fail
  refine Calls.mono (ws_0 _ _ _ _ [] [49#8, 32#8, 51#8, 58#8] [49#8, 32#8, 51#8, 58#8] rfl HN3.out HS3.out (by decide)) ?_
  rintro e w4 ⟨⟨n4, v4, rfl, hb4⟩, hw4⟩
  have hk4 := HK3.out.below hw4 (Nat.lt_succ_self q)
  have c0 := hk4.cell 0
  have c1 := hk4.cell 1
  have H4 := Lib.hid (And.intro hb4 (And.intro (HL3.out.trans (hw4.mono (Nat.le_trans HQ.out (Nat.le_succ q)))) (And.intro hk4 (Nat.le_trans HS3.out hw4.size))))
  clear hb4 hw4 hk4 HN3 HK3 HL3 HS3 HN HK HL HS
  go_wp2_with fail
  refine wp_loop_rounds 2 ?_
  rw [rounds_succ]
  go_wp2_with fail
  refine Calls.mono (H.out.ptr w4 H4.out.2.1) ?_
  rintro e w5 ⟨rfl, hb5⟩
  have H5 := Lib.hid (And.intro (H4.out.1.below hb5) (And.intro (H4.out.2.1.trans (hb5.mono H4.out.2.1.size)) (And.intro (H4.out.2.2.1.below hb5 H4.out.2.2.1.lt) (Nat.le_trans H4.out.2.2.2 hb5.size))))
  clear hb5 H4 c0 c1
  have a4 := addS4
  have a5 : (strB [48#8]).size = 1 := rfl
  go_wp2_with fail
  refine Calls.mono (itoa_r 0 (by decide) _) ?_
  rintro e w6 ⟨rfl, hb6⟩
  have H6 := Lib.hid (And.intro (H5.out.1.below hb6) (And.intro (H5.out.2.1.trans (hb6.mono H5.out.2.1.size)) (And.intro (H5.out.2.2.1.below hb6 H5.out.2.2.1.lt) (Nat.le_trans H5.out.2.2.2 hb6.size))))
  clear hb6 H5
  go_wp2_with fail
  refine Calls.mono (ws_0 _ _ _ _ _ [32#8, 48#8] [49#8, 32#8, 51#8, 58#8, 32#8, 48#8] rfl H6.out.1 H6.out.2.2.2 (by decide)) ?_
  rintro e w7 ⟨⟨n7, v7, rfl, hb7⟩, hw7⟩
  have hk7 := H6.out.2.2.1.below hw7 (Nat.lt_succ_self q)
  have c1 := hk7.cell 1
  have H7 := Lib.hid (And.intro hb7 (And.intro (H6.out.2.1.trans (hw7.mono (Nat.le_trans HQ.out (Nat.le_succ q)))) (Nat.le_trans H6.out.2.2.2 hw7.size)))
  clear hb7 hw7 hk7 H6
  go_wp2_with fail
  rw [rounds_succ]
  go_wp2_with fail
  refine Calls.mono (H.out.read w7 H7.out.2.1) ?_
  rintro e w8 ⟨A, c8, rfl, hc8, ho8, hb8⟩
  obtain ⟨r, rfl⟩ : ∃ r, A = some ⟨r, 0, none⟩ := by
    rcases ho8.2 with ⟨e, hn⟩ | ⟨g, _, _, e, _⟩
    · cases hn
    · injection e with e
      exact ⟨g, e⟩
  have hr8 := ho8.ge
  have T8 : TxS w8 (q + 1) (q + 1) v7 [49#8, 32#8, 51#8, 58#8, 32#8, 48#8] r [0#8, 120#8, 0#8] := by
    refine ⟨H7.out.1.below hb8, Nat.le_trans H7.out.2.2 hb8.size, hr8.2, fun j hj => ho8.cell hj, ?_, ?_⟩
    · intro e
      have := H7.out.1.lt
      omega
    · intro e
      have := (H7.out.1.own.lt r e).2
      omega
  have H8 := Lib.hid (And.intro T8 (H7.out.2.1.trans (hb8.mono H7.out.2.1.size)))
  clear T8 hb8 ho8 hr8 H7 c1 a4 a5
  have hc8' : (3 : Int) ≤ c8 := by have : 3 ≤ c8 := hc8; omega
  go_wp2_with fail
  refine Calls.mono (wb_q _ _ _ _ _ _ _ 32#8 H8.out.1 (by decide)) ?_
  rintro e w9 ⟨⟨v9, rfl, T9⟩, hw9⟩
  have H9 := Lib.hid (And.intro T9 (H8.out.2.trans (hw9.mono (Nat.le_trans HQ.out (Nat.le_succ q)))))
  have d0 : w9.cell? ⟨r, 0, none⟩ = some (.int .u8 0) := T9.rd 0 (by decide)
  clear T9 hw9 H8
  go_wp2_with fail
  refine wp_loop_rounds 4 ?_
  rw [rounds_succ]
  go_wp2_with fail
  refine Calls.mono (fuk _ 0#8 (cell_later H9.out.2 H.out.tab) [48#8, 48#8] rfl) ?_
  rintro e w10 ⟨rfl, hb10⟩
  have H10 := Lib.hid (And.intro (H9.out.1.below hb10) (H9.out.2.trans (hb10.mono H9.out.2.size)))
  clear d0 hb10 H9
  have x0 : (strB [49#8, 48#8, 48#8]).size = 3 := rfl
  have x1 : (strB [49#8, 48#8, 48#8]).extract 1 3 = strB [48#8, 48#8] := rfl
  go_wp2_with fail
  refine Calls.mono (ws_q _ _ _ _ _ _ [48#8, 48#8] [49#8, 32#8, 51#8, 58#8, 32#8, 48#8, 32#8, 48#8, 48#8] _ _ rfl rfl H10.out.1 (by decide)) ?_
  rintro e w11 ⟨⟨n11, v11, rfl, T11⟩, hw11⟩
  have H11 := Lib.hid (And.intro T11 (H10.out.2.trans (hw11.mono (Nat.le_trans HQ.out (Nat.le_succ q)))))
  have d1 : w11.cell? ⟨r, 1, none⟩ = some (.int .u8 120) := T11.rd 1 (by decide)
  clear T11 hw11 H10 x0 x1
  go_wp2_with fail
  rw [rounds_succ]
  go_wp2_with fail
  refine Calls.mono (fuk _ 120#8 (cell_later H11.out.2 H.out.tab) [55#8, 56#8] rfl) ?_
  rintro e w12 ⟨rfl, hb12⟩
  have H12 := Lib.hid (And.intro (H11.out.1.below hb12) (H11.out.2.trans (hb12.mono H11.out.2.size)))
  clear d1 hb12 H11
  have x0 : (strB [49#8, 55#8, 56#8]).size = 3 := rfl
  have x1 : (strB [49#8, 55#8, 56#8]).extract 1 3 = strB [55#8, 56#8] := rfl
  go_wp2_with fail
  refine Calls.mono (ws_q _ _ _ _ _ _ [55#8, 56#8] [49#8, 32#8, 51#8, 58#8, 32#8, 48#8, 32#8, 48#8, 48#8, 55#8, 56#8] _ _ rfl rfl H12.out.1 (by decide)) ?_
  rintro e w13 ⟨⟨n13, v13, rfl, T13⟩, hw13⟩
  have H13 := Lib.hid (And.intro T13 (H12.out.2.trans (hw13.mono (Nat.le_trans HQ.out (Nat.le_succ q)))))
  have d2 : w13.cell? ⟨r, 2, none⟩ = some (.int .u8 0) := T13.rd 2 (by decide)
  clear T13 hw13 H12 x0 x1
  go_wp2_with fail
  rw [rounds_succ]
  go_wp2_with fail
  refine Calls.mono (fuk _ 0#8 (cell_later H13.out.2 H.out.tab) [48#8, 48#8] rfl) ?_
  rintro e w14 ⟨rfl, hb14⟩
  have H14 := Lib.hid (And.intro (H13.out.1.below hb14) (H13.out.2.trans (hb14.mono H13.out.2.size)))
  clear d2 hb14 H13
  have x0 : (strB [49#8, 48#8, 48#8]).size = 3 := rfl
  have x1 : (strB [49#8, 48#8, 48#8]).extract 1 3 = strB [48#8, 48#8] := rfl
  go_wp2_with fail
  refine Calls.mono (ws_q _ _ _ _ _ _ [48#8, 48#8] [49#8, 32#8, 51#8, 58#8, 32#8, 48#8, 32#8, 48#8, 48#8, 55#8, 56#8, 48#8, 48#8] _ _ rfl rfl H14.out.1 (by decide)) ?_
  rintro e w15 ⟨⟨n15, v15, rfl, T15⟩, hw15⟩
  have H15 := Lib.hid (And.intro T15 (H14.out.2.trans (hw15.mono (Nat.le_trans HQ.out (Nat.le_succ q)))))
  clear T15 hw15 H14 x0 x1
  go_wp2_with fail
  rw [rounds_succ]
  go_wp2_with fail
  refine Calls.mono (string_c _ _ _ _ _ H15.out.1.at_ H15.out.1.hB) ?_
  rintro e w16 ⟨rfl, hw16⟩
  have H16 := Lib.hid (H15.out.2.trans (hw16.mono (Nat.le_trans HQ.out (Nat.le_succ q))))
  clear hw16 H15
  go_wp2_with fail
  go_ret
  exact ⟨rfl, H16.out⟩
end Go.Proofs.YtfodefgihicafaaDoor
/- obj.Well. Conditions: lengths. -/
namespace Go.Proofs.YtfodefgihicafaaDoor
set_option linter.unusedVariables false
set_option linter.unusedSimpArgs false
open Go.RowKit Go.Maps
section
variable {ops : Array Oper} {rest : List Oper} {o : Oper} {a : Act} {w : World} {Q : Exit → Act → World → Prop} {b : Nat} {m : List Int}
theorem wp_putI (hg : o.guard = none) (mm x v : Operand) (hop : o.op = Op.mapUpdate 87 mm x v)
    (hm : a.eval mm = .map (some b)) (h : SetI w b m) (p : Int) (hx : a.eval x = .int .i64 p) (hv : a.eval v = .agg #[]) (hp : kW p) (hl : m.length ≤ 1000000)
    (hK : ∀ w', SetI w' b (addS m p) → Kept (fun c => some b = some c) w w' → wpList Tryd.prog ops Q rest (a.put o.dst undef) w') : wpList Tryd.prog ops Q (o :: rest) a w := by
  refine wpList_plain hg fun K' hK' => ?_
  obtain ⟨w', hrun, r1, r2⟩ := h.put hp (by unfold maxLen; omega)
  unfold Oper.wp
  simp [execOp, hop, hm, hx, hv, hrun, Result.andThen]
  exact hK' _ _ (hK w' r1 r2)
end
theorem mk_set (W : World) (n : Int) : (Instr.makeMap 87 (some (.int .i64 n))).run Tryd.prog W = .ok (.map (some W.heap.size)) (W.alloc (.map #[] 0)) := by
  simp [Instr.makeMap, run_underlying Tryd.underlying87, asInt, asIntOf, Result.andThen]
theorem mem_addS {m : List Int} {p q : Int} : q ∈ addS m p ↔ q ∈ m ∨ q = p := by
  unfold addS
  split
  · rename_i h
    constructor
    · exact .inl
    · rintro (h1 | rfl)
      · exact h1
      · exact h
  · rw [List.mem_append, List.mem_singleton]
theorem addS_len {m : List Int} {p : Int} : (addS m p).length ≤ m.length + 1 := by
  unfold addS
  split
  · omega
  · rw [List.length_append]; exact Nat.le_refl _
theorem objF_mem {ws : List (BitVec 64)} {top : Nat} : ∀ (n a : Nat) (l : List Nat), objF ws top n a = some l → ∀ x ∈ l, a ≤ x ∧ x < top ∧ goodX (ws.getD x 0#64) (top - x) = true
  | 0, a, l, h, x, hx => by injection h with h; subst h; cases hx
  | n + 1, a, l, h, x, hx => by
    have e : objF ws top (n + 1) a = if a < top then (if goodX (ws.getD a 0#64) (top - a) = true then (objF ws top n (a + szX (ws.getD a 0#64))).map (a :: ·) else none) else some [] := rfl
    rw [e] at h
    by_cases c : a < top
    · rw [if_pos c] at h
      by_cases d : goodX (ws.getD a 0#64) (top - a) = true
      · rw [if_pos d] at h
        cases hr : objF ws top n (a + szX (ws.getD a 0#64)) with
        | none => rw [hr] at h; cases h
        | some r =>
          rw [hr] at h
          injection h with h
          subst h
          rcases List.mem_cons.1 hx with rfl | hx
          · exact ⟨Nat.le_refl _, c, d⟩
          · have := objF_mem n _ r hr x hx
            exact ⟨by omega, this.2⟩
      · rw [if_neg d] at h; cases h
    · rw [if_neg c] at h
      injection h with h
      subst h
      cases hx
theorem objF_len {ws : List (BitVec 64)} {top : Nat} : ∀ (n a : Nat) (l : List Nat), objF ws top n a = some l → l.length ≤ n
  | 0, a, l, h => by injection h with h; subst h; exact Nat.le_refl _
  | n + 1, a, l, h => by
    have e : objF ws top (n + 1) a = if a < top then (if goodX (ws.getD a 0#64) (top - a) = true then (objF ws top n (a + szX (ws.getD a 0#64))).map (a :: ·) else none) else some [] := rfl
    rw [e] at h
    by_cases c : a < top
    · rw [if_pos c] at h
      by_cases d : goodX (ws.getD a 0#64) (top - a) = true
      · rw [if_pos d] at h
        cases hr : objF ws top n (a + szX (ws.getD a 0#64)) with
        | none => rw [hr] at h; cases h
        | some r =>
          rw [hr] at h
          injection h with h
          subst h
          have := objF_len n _ r hr
          rw [List.length_cons]; omega
      · rw [if_neg d] at h; cases h
    · rw [if_neg c] at h
      injection h with h
      subst h
      exact Nat.zero_le _
/-- Does pointer k of the object at a place lead to one of some, or nowhere? -/
def ptrN (ws : List (BitVec 64)) (l : List Nat) (a k : Nat) : Bool := decide ((ws.getD (a + 1 + k) 0#64).toNat = 0 ∨ (1 ≤ (ws.getD (a + 1 + k) 0#64).toNat ∧ (ws.getD (a + 1 + k) 0#64).toNat - 1 ∈ l))
def padN (ws : List (BitVec 64)) (a : Nat) : Bool := padB ws (8 * (a + 1 + P0 (ws.getD a 0#64)) + B0 (ws.getD a 0#64)) (8 * (a + szX (ws.getD a 0#64)) - (8 * (a + 1 + P0 (ws.getD a 0#64)) + B0 (ws.getD a 0#64)))
def wellN (ws : List (BitVec 64)) (l : List Nat) (a : Nat) : Bool := (List.range (P0 (ws.getD a 0#64))).all (ptrN ws l a) && padN ws a
def wellE (ws : List (BitVec 64)) (b t : Nat) : Int := match objF ws t (t + 1) b with
  | none => 2
  | some l => if l.all (wellN ws l) = true then 0 else 2
theorem well_none {ws : List (BitVec 64)} {b t : Nat} (h : objF ws t (t + 1) b = none) : wellE ws b t = 2 := by unfold wellE; rw [h]
theorem well_some {ws : List (BitVec 64)} {b t : Nat} {l : List Nat} (h : objF ws t (t + 1) b = some l) : wellE ws b t = if l.all (wellN ws l) = true then 0 else 2 := by unfold wellE; rw [h]
theorem all_no {α : Type} {f : α → Bool} {l : List α} {x : α} (hx : x ∈ l) (h : f x = false) : ¬ l.all f = true := fun e => by
  have := List.all_eq_true.1 e x hx
  rw [h] at this; cases this
set_option maxHeartbeats 4000000
set_option maxRecDepth 100000
theorem well_c (w : World) (B s g : Nat) (v : Value) (ws : List (BitVec 64)) (b t e : Nat) (p : SpAt w B s g v ws b t e) (hl : ws.length ≤ 8192) :
    Calls Tryd.prog 18 #[.pointer (some ⟨s, 0, none⟩)] w (RetP (.int .i64 (wellE ws b t)) w) := by
  have HOb := Lib.hid (objects_c w B s g v ws b t e p (by omega))
  obtain ⟨R, hR⟩ : ∃ R, R = wellE ws b t := ⟨_, rfl⟩
  rw [← hR]
  have HR := Lib.hid hR
  have HP := Lib.hid p
  have HL := Lib.hid hl
  have HT := Lib.hid (show t ≤ 8192 from by have := p.te; have := p.el; omega)
  clear hR p hl
  cases ho : objF ws t (t + 1) b with
  | none =>
    rw [ho] at HOb
    have HOb2 := Lib.hid (show Calls Tryd.prog 42 #[.pointer (some ⟨s, 0, none⟩)] w (RetP (.tuple #[.slice none 0 0, .int .i64 2]) w) from HOb.out)
    obtain rfl : R = 2 := by rw [HR.out]; exact well_none ho
    clear HOb ho HR
    go_enter Tryd.func18, Tryd.ntmps18
    go_wp2_with fail
    refine Calls.mono HOb2.out ?_
    rintro r w2 ⟨rfl, b2⟩
    have HB2 := Lib.hid b2
    clear b2
    go_wp2_with fail
    go_ret
    exact ⟨rfl, HB2.out⟩
  | some l =>
    rw [ho] at HOb
    have HOb2 := Lib.hid (show Calls Tryd.prog 42 #[.pointer (some ⟨s, 0, none⟩)] w (MkEP iN 3 l 0 w) from HOb.out)
    have HRl := Lib.hid (show R = if l.all (wellN ws l) = true then 0 else 2 from by rw [HR.out]; exact well_some ho)
    have HMem := Lib.hid (objF_mem _ _ _ ho)
    have hlen := objF_len _ _ _ ho
    obtain ⟨N, hN⟩ : ∃ N, N = l.length := ⟨_, rfl⟩
    have qN : (N : Int) ≤ 8193 := by have := HT.out; omega
    have HN := Lib.hid hN
    clear HOb ho HR hlen hN
    go_enter Tryd.func18, Tryd.ntmps18
    go_wp2_with fail
    refine Calls.mono HOb2.out ?_
    rintro r w2 ⟨A, c, rfl, hc, ho, b2⟩
    have HB2 := Lib.hid b2
    have HRd := Lib.hid ho.rd
    rw [← HN.out]
    clear hc ho b2
    have hmk := mk_set w2 (N : Int)
    go_wp2_with fail
    clear hmk
    obtain ⟨mb, hmb⟩ : ∃ mb, mb = w2.heap.size := ⟨_, rfl⟩
    obtain ⟨w3, hw3⟩ : ∃ w3, w3 = w2.alloc (.map #[] 0) := ⟨_, rfl⟩
    have hb3 : Below w2.heap.size w2 w3 := by rw [hw3]; exact Gw.alloc w2 _
    have hs3 : SetI w3 mb [] := by rw [hw3, hmb]; exact SetI.made w2
    rw [← hmb, ← hw3]
    have H3 := Lib.hid (And.intro hb3 (And.intro hs3 hmb))
    clear hmb hw3 hb3 hs3
    go_loopw [30] (fun i W => ∃ k : Nat, i = .int .i64 k ∧ k ≤ N ∧ Hid (Below w2.heap.size w2 W ∧ ∃ M, SetI W mb M ∧ (∀ x : Int, x ∈ M ↔ ∃ y ∈ l.take k, x = (y : Int)) ∧ M.length ≤ k)) (fun i _ => N - (Go.RowKit.intOf i).toNat)
    case atStart => exact ⟨0, rfl, Nat.zero_le _, Lib.hid ⟨H3.out.1, [], H3.out.2.1, fun x => by simp, Nat.zero_le _⟩⟩
    case round =>
      obtain ⟨k, rfl, hk, hS⟩ := hrel
      by_cases hlt : k < N
      · have hkl : k < l.length := by rw [← HN.out]; exact hlt
        obtain ⟨y, hy⟩ : ∃ y, y = l[k] := ⟨_, rfl⟩
        obtain ⟨hb, M, hM, hMi, hMl⟩ := hS.out
        obtain ⟨ad, rfl, _, hc⟩ := (HRd.out.below hb) k hkl
        rw [← hy] at hc
        unfold iN at hc
        have hyt := (HMem.out y (by rw [hy]; exact List.getElem_mem _)).2.1
        have hkw : kW (y : Int) := wfI (by omega) (by have := HT.out; omega)
        have HK := Lib.hid (And.intro hkw (show M.length ≤ 1000000 from by omega))
        have HSt := Lib.hid hM
        have HNx := Lib.hid (show ∀ (W : World), Kept (fun c => some mb = some c) wr W → SetI W mb (addS M (y : Int)) → (Below w2.heap.size w2 W ∧ ∃ M, SetI W mb M ∧ (∀ x : Int, x ∈ M ↔ ∃ z ∈ l.take (k + 1), x = (z : Int)) ∧ M.length ≤ k + 1) from fun W hk2 hs2 => by
          refine ⟨hb.trans (hk2.below hb.size (fun c e => by injection e with e; have := H3.out.2.2; omega)), _, hs2, fun x => ?_, Nat.le_trans addS_len (by omega)⟩
          rw [mem_addS, hMi, List.take_succ_eq_append_getElem hkl, ← hy]
          constructor
          · rintro (⟨z, hz, rfl⟩ | rfl)
            · exact ⟨z, List.mem_append.2 (.inl hz), rfl⟩
            · exact ⟨y, by simp, rfl⟩
          · rintro ⟨z, hz, rfl⟩
            rcases List.mem_append.1 hz with hz | hz
            · exact .inl ⟨z, hz, rfl⟩
            · right; rw [List.mem_singleton.1 hz])
        have p1 : (0 : Int) ≤ (k : Int) := by omega
        have p2 : (k : Int) < (N : Int) := by omega
        clear hy hb hM hMi hMl hyt hkw hkl
        go_wp2_with (at_mapUpdate; refine wp_putI rfl (.tmp 34) (.tmp 35) (.tmp 36) rfl rfl HSt.out (y : Int) rfl rfl HK.out.1 HK.out.2 ?_; intro w8 h8 k8; have HX := Lib.hid (HNx.out w8 k8 h8); clear h8 k8)
        clear hc
        go_roundw
        case rel => first | exact ⟨k + 1, by go_num, by omega, HX⟩ | exact ⟨_, ⟨k + 1, by go_num, by omega, HX⟩, rfl⟩
        case measure => simp [Go.RowKit.intOf]; omega
      · have hkN : k = N := by omega
        obtain ⟨hb, M, hM, hMi, hMl⟩ := hS.out
        rw [hkN, List.take_of_length_le (by rw [← HN.out]; exact Nat.le_refl _)] at hMi
        obtain ⟨w5, hw5⟩ : ∃ w5, w5 = wr := ⟨_, rfl⟩
        rw [← hw5] at hb hM ⊢
        have H5 := Lib.hid (And.intro (HB2.out.trans (hb.mono HB2.out.size)) (And.intro hM hMi))
        have HRd5 := Lib.hid (HRd.out.below hb)
        have hw2 := hb.size
        clear hS hb hM hMi hMl hkN hw5
        go_wp2_with fail
        clear hlt hk
        go_loopw [40] (fun i W => ∃ k : Nat, i = .int .i64 k ∧ k ≤ N ∧ Hid ((l.take k).all (wellN ws l) = true) ∧ Hid (Below w5.heap.size w5 W)) (fun i _ => N - (Go.RowKit.intOf i).toNat)
        case atStart => exact ⟨0, rfl, Nat.zero_le _, Lib.hid rfl, Lib.hid (Below.refl _ _)⟩
        case round =>
          obtain ⟨k, rfl, hk, hW, hB⟩ := hrel
          by_cases hlt : k < N
          · have hkl : k < l.length := by rw [← HN.out]; exact hlt
            obtain ⟨a, ha⟩ : ∃ a, a = l[k] := ⟨_, rfl⟩
            have ham : a ∈ l := by rw [ha]; exact List.getElem_mem _
            obtain ⟨hab, hat, hag⟩ := HMem.out a ham
            obtain ⟨ad, rfl, _, hc⟩ := (HRd5.out.below (hB.out.mono hw2)) k hkl
            rw [← ha] at hc
            unfold iN at hc
            have HLk := Lib.hid (look_ok wr B s g v ws b t e (HP.out.below (H5.out.1.trans (hB.out.mono H5.out.1.size))) (by have := HL.out; omega) a hab hat hag)
            have HPt := Lib.hid (fun W (hb : Below w5.heap.size w5 W) (j : Nat) (hj : j < P0 (ws.getD a 0#64)) => Ptr_c W B s g v ws b t e (HP.out.below (H5.out.1.trans (hb.mono H5.out.1.size))) HL.out a j hab hat hag hj)
            have HPd := Lib.hid (fun W (hb : Below w5.heap.size w5 W) => padded_c W B s g v ws b t e (HP.out.below (H5.out.1.trans (hb.mono H5.out.1.size))) (by have := HL.out; omega) a hat hag)
            have HTk := Lib.hid (show l.take (k + 1) = l.take k ++ [a] from by rw [List.take_succ_eq_append_getElem hkl, ha])
            obtain ⟨PD, hPD⟩ : ∃ q, q = padN ws a := ⟨_, rfl⟩
            have hpd0 : padB ws (8 * (a + 1 + P0 (ws.getD a 0#64)) + B0 (ws.getD a 0#64)) (8 * (a + szX (ws.getD a 0#64)) - (8 * (a + 1 + P0 (ws.getD a 0#64)) + B0 (ws.getD a 0#64))) = PD := by rw [hPD]; rfl
            rw [hpd0] at HPd
            have hPb := (head_of hag).2.1
            obtain ⟨P, hP'⟩ : ∃ P, P = P0 (ws.getD a 0#64) := ⟨_, rfl⟩
            obtain ⟨BN, hN'⟩ : ∃ P, P = B0 (ws.getD a 0#64) := ⟨_, rfl⟩
            have hwn : wellN ws l a = ((List.range P).all (ptrN ws l a) && PD) := by rw [hP', hPD]; rfl
            have HWn := Lib.hid (And.intro hwn ham)
            rw [← hP', ← hN'] at HLk HPd
            rw [← hP'] at HPt hPb
            have p1 : (0 : Int) ≤ (k : Int) := by omega
            have p2 : (k : Int) < (N : Int) := by omega
            have q3 : (P : Int) ≤ 64 := by omega
            clear ha ham hab hat hag hPD hpd0 hPb hP' hN' hwn hkl
            go_wp2_with fail
            refine Calls.mono HLk.out ?_
            rintro r w6 ⟨rfl, b6⟩
            have HB6 := Lib.hid (hB.out.trans (b6.mono hB.out.size))
            clear b6 hc
            go_wp2_with fail
            obtain ⟨hx, hhx⟩ : ∃ hx, hx = w6.heap.size := ⟨_, rfl⟩
            obtain ⟨w7, hw7⟩ : ∃ w7, w7 = w6.alloc (.cells #[.int .i64 P, .int .i64 BN, .bool false, .int .i64 0] 60) := ⟨_, rfl⟩
            have hb7 : Below w6.heap.size w6 w7 := by rw [hw7]; exact Gw.alloc w6 _
            have hk7 : Bk w7 hx 60 #[.int .i64 P, .int .i64 BN, .bool false, .int .i64 0] := by rw [hw7, hhx]; exact Bk.new w6 _ _
            rw [← hhx, ← hw7]
            have H7 := Lib.hid (And.intro (HB6.out.trans (hb7.mono HB6.out.size)) hk7)
            clear hhx hw7 hb7 hk7
            go_loopw [55] (fun i W => ∃ j : Nat, i = .int .i64 j ∧ j ≤ P ∧ Hid ((List.range j).all (ptrN ws l a) = true) ∧ Hid (Below w7.heap.size w7 W)) (fun i _ => P - (Go.RowKit.intOf i).toNat)
            case atStart => exact ⟨0, rfl, Nat.zero_le _, Lib.hid rfl, Lib.hid (Below.refl _ _)⟩
            case round =>
              clear hlt hk
              obtain ⟨j, rfl, hj, hA, hB7⟩ := hrel
              by_cases hjt : j < P
              · have HB5 := Lib.hid (H7.out.1.trans (hB7.out.mono H7.out.1.size))
                have HC := Lib.hid (HPt.out wr HB5.out j hjt)
                obtain ⟨y, hy⟩ : ∃ y, y = ws.getD (a + 1 + j) 0#64 := ⟨_, rfl⟩
                rw [← hy] at HC
                have hpn : ptrN ws l a j = decide (y.toNat = 0 ∨ (1 ≤ y.toNat ∧ y.toNat - 1 ∈ l)) := by unfold ptrN; rw [← hy]
                have HPn := Lib.hid hpn
                have HRg := Lib.hid (show (List.range (j + 1)).all (ptrN ws l a) = ptrN ws l a j from by rw [List.range_succ, List.all_append, hA.out]; simp)
                have HNo := Lib.hid (show ptrN ws l a j = false → R = 2 from fun h => by
                  rw [HRl.out, if_neg (all_no HWn.out.2 ?_)]
                  rw [HWn.out.1, Bool.and_eq_false_iff]
                  left
                  cases h2 : (List.range P).all (ptrN ws l a) with
                  | false => rfl
                  | true =>
                    have := List.all_eq_true.1 h2 j (List.mem_range.2 hjt)
                    rw [h] at this; cases this)
                have p3 : (0 : Int) ≤ (j : Int) := by omega
                have p4 : (j : Int) < (P : Int) := by omega
                clear hy hpn
                cases hpk : pokB b t y with
                | false =>
                  rw [(pt_no hpk).1, (pt_no hpk).2] at HC
                  obtain rfl : R = 2 := HNo.out (by
                    rw [HPn.out, decide_eq_false_iff_not]
                    rintro (h | ⟨h1, h2⟩)
                    · unfold pokB at hpk; simp [h] at hpk
                    · have := HMem.out _ h2
                      unfold pokB at hpk
                      rw [decide_eq_false_iff_not] at hpk
                      omega)
                  clear hpk
                  go_wp2_with fail
                  refine Calls.mono HC.out ?_
                  rintro r w8 ⟨rfl, b8⟩
                  have HB8 := Lib.hid (HB5.out.trans (b8.mono HB5.out.size))
                  clear b8
                  go_wp2_with fail
                  go_ret
                  exact ⟨rfl, H5.out.1.trans (HB8.out.mono H5.out.1.size)⟩
                | true =>
                  rw [(pt_yes hpk).1, (pt_yes hpk).2] at HC
                  obtain ⟨n, hn⟩ : ∃ n, n = y.toNat := ⟨_, rfl⟩
                  rw [← hn] at HC HPn
                  have hpk2 : n = 0 ∨ (b < n ∧ n ≤ t) := by
                    unfold pokB at hpk
                    rw [← hn] at hpk
                    exact of_decide_eq_true hpk
                  have hnt : n ≤ 8192 := by have := HT.out; omega
                  obtain ⟨d, hd⟩ : ∃ d, d = decide (((n : Int) - 1) ∈ M) := ⟨_, rfl⟩
                  have HLo := Lib.hid (fun W (hb : Below w5.heap.size w5 W) => (H5.out.2.1.below hb).look (p := (n : Int) - 1) (wfI (by omega) (by omega)))
                  rw [← hd] at HLo
                  have HD := Lib.hid (show ((n : Int) - 1) ∈ M ↔ (1 ≤ n ∧ n - 1 ∈ l) from by
                    rw [H5.out.2.2]
                    constructor
                    · rintro ⟨z, hz, e⟩
                      have : n = z + 1 := by omega
                      subst this
                      exact ⟨by omega, by simpa using hz⟩
                    · rintro ⟨h1, h2⟩
                      exact ⟨n - 1, h2, by omega⟩)
                  have HDd := Lib.hid hd
                  clear hn hpk hpk2 hd
                  go_wp2_with fail
                  refine Calls.mono HC.out ?_
                  rintro r w8 ⟨rfl, b8⟩
                  have HB8 := Lib.hid (HB5.out.trans (b8.mono HB5.out.size))
                  have HB78 := Lib.hid (hB7.out.trans (b8.mono hB7.out.size))
                  have hlk := HLo.out w8 HB8.out
                  have hhz := HB8.out.size
                  clear b8
                  by_cases hn0 : n = 0
                  · subst hn0
                    have hd0 : d = false := by
                      rw [HDd.out, decide_eq_false_iff_not, HD.out]; omega
                    subst hd0
                    have hok := (HRg.out.trans HPn.out)
                    have HOk := Lib.hid (show (List.range (j + 1)).all (ptrN ws l a) = true from by rw [hok]; simp)
                    clear hok hnt hjt
                    have hlk2 : (Instr.lookup 87 (.map (some mb)) (.int .i64 (-1)) true).run Tryd.prog w8 = .ok (.tuple #[.agg #[], .bool false]) w8 := hlk
                    clear hlk
                    go_wp2_with fail
                    have HB9 := Lib.hid (show Below w7.heap.size w7 (w8.alloc (.cells #[] 88)) from HB78.out.trans ((Gw.alloc w8 _).mono HB78.out.size))
                    clear hlk2
                    go_roundw
                    case rel => exact ⟨j + 1, by go_num, by omega, HOk, HB9⟩
                    case measure => simp [Go.RowKit.intOf]; omega
                  · obtain ⟨m, hm⟩ : ∃ m : Nat, (n : Int) - 1 = (m : Int) := ⟨n - 1, by omega⟩
                    have q1 : ((m : Int) == -1) = false := by simp
                    have q2 : ((m : Int) != -1) = true := by simp
                    have hpd : ptrN ws l a j = d := by
                      rw [HPn.out, HDd.out, decide_eq_decide, HD.out]
                      constructor
                      · rintro (h | h)
                        · exact absurd h hn0
                        · exact h
                      · exact .inr
                    rw [hm] at hlk ⊢
                    cases d with
                    | true =>
                      have HOk := Lib.hid (show (List.range (j + 1)).all (ptrN ws l a) = true from by rw [HRg.out, hpd])
                      clear hpd hm hn0 hnt hjt
                      go_wp2_with fail
                      have HB9 := Lib.hid (show Below w7.heap.size w7 (w8.alloc (.cells #[] 88)) from HB78.out.trans ((Gw.alloc w8 _).mono HB78.out.size))
                      clear hlk q1 q2
                      go_roundw
                      case rel => exact ⟨j + 1, by go_num, by omega, HOk, HB9⟩
                      case measure => simp [Go.RowKit.intOf]; omega
                    | false =>
                      obtain rfl : R = 2 := HNo.out hpd
                      clear hpd hm hn0 hnt hjt
                      go_wp2_with fail
                      have HB9 := Lib.hid (HB8.out.trans ((Gw.alloc w8 (.cells #[] 88)).mono HB8.out.size))
                      clear hlk q1 q2
                      go_ret
                      exact ⟨rfl, H5.out.1.trans (HB9.out.mono H5.out.1.size)⟩
              · have hjP : j = P := by omega
                have HAl := Lib.hid (show (List.range P).all (ptrN ws l a) = true from by rw [← hjP]; exact hA.out)
                have HB5 := Lib.hid (H7.out.1.trans (hB7.out.mono H7.out.1.size))
                have hk8 := H7.out.2.below hB7.out H7.out.2.lt
                obtain ⟨d0, d1, d2, d3⟩ := hk8.four
                clear hA hk8 hjP
                go_wp2_with fail
                refine Calls.mono (HPd.out wr HB5.out) ?_
                rintro r w8 ⟨rfl, b8⟩
                have HB8 := Lib.hid (HB5.out.trans (b8.mono HB5.out.size))
                clear b8 d0 d1 d2 d3
                cases PD with
                | true =>
                  have HX := Lib.hid (show (l.take (k + 1)).all (wellN ws l) = true from by
                    rw [HTk.out, List.all_append, hW.out, Bool.true_and, List.all_cons, List.all_nil, Bool.and_true, HWn.out.1, HAl.out]; rfl)
                  go_wp2_with fail
                  go_roundw
                  case rel => exact ⟨k + 1, by go_num, by omega, HX, HB8⟩
                  case measure => simp [Go.RowKit.intOf]; omega
                | false =>
                  obtain rfl : R = 2 := by
                    rw [HRl.out, if_neg (all_no HWn.out.2 ?_)]
                    rw [HWn.out.1, Bool.and_false]
                  go_wp2_with fail
                  go_ret
                  exact ⟨rfl, H5.out.1.trans (HB8.out.mono H5.out.1.size)⟩
          · have hkN : k = N := by omega
            obtain rfl : R = 0 := by
              have h := hW.out
              rw [hkN, List.take_of_length_le (by rw [← HN.out]; exact Nat.le_refl _)] at h
              rw [HRl.out, if_pos h]
            clear hkN
            go_wp2_with fail
            go_ret
            exact ⟨rfl, H5.out.1.trans (hB.out.mono H5.out.1.size)⟩
end Go.Proofs.YtfodefgihicafaaDoor
/- What loamlaw16.known answers: true. Conditions: the table deBruijn64tab. -/
namespace Go.Proofs.YtfodefgihicafaaDoor
set_option linter.unusedVariables false
set_option linter.unusedSimpArgs false
open Go.RowKit
set_option maxHeartbeats 1000000
set_option maxRecDepth 100000
def kO0 : List (BitVec 64) := List.replicate 20 0#64
def kO1 : List (BitVec 64) := allocW kO0 0 3 (packH 1 3 false 0)
def kO2 : List (BitVec 64) := kO1.set (0 + 1 + 0) (BitVec.ofNat 64 (0 + 1))
def kO3 : List (BitVec 64) := putK kO2 (8 * (0 + 1 + 1) + 1) [120#8] 1
theorem kO0_len : kO0.length = 20 := rfl
theorem kO1_len : kO1.length = 20 := by decide +kernel
theorem kO2_len : kO2.length = 20 := by decide +kernel
theorem kO3_len : kO3.length = 20 := by decide +kernel
theorem kO1_h : goodX (kO1.getD 0 0#64) (3 - 0) = true ∧ P0 (kO1.getD 0 0#64) = 1 ∧ B0 (kO1.getD 0 0#64) = 3 := by decide +kernel
theorem kO2_h : goodX (kO2.getD 0 0#64) (3 - 0) = true ∧ P0 (kO2.getD 0 0#64) = 1 ∧ B0 (kO2.getD 0 0#64) = 3 := by decide +kernel
theorem kO3_h : goodX (kO3.getD 0 0#64) (3 - 0) = true ∧ P0 (kO3.getD 0 0#64) = 1 ∧ B0 (kO3.getD 0 0#64) = 3 := by decide +kernel
theorem kO3_p : ptV 0 3 (kO3.getD (0 + 1 + 0) 0#64) = 0 ∧ ptE 0 3 (kO3.getD (0 + 1 + 0) 0#64) = 0 := by decide +kernel
theorem kO3_b : bytesM kO3 (8 * (0 + 1 + 1) + 0) 3 = [0#8, 120#8, 0#8] := by decide +kernel
theorem kO3_w : wellE kO3 0 3 = 0 := by decide +kernel
theorem k16_new (w : World) : Calls Tryd.prog 22 #[.int .i64 20] w fun e w' => ∃ g v, e = .returned (.tuple #[.pointer (some ⟨g, 0, none⟩), .int .i64 0]) ∧ MemAt w' w.heap.size g v kO0 ∧ Below w.heap.size w w' := new_in w 20 (by decide)
theorem k16_sp (w : World) (B g : Nat) (v : Value) (h : MemAt w B g v kO0) : Calls Tryd.prog 23 #[.pointer (some ⟨g, 0, none⟩), .int .i64 0, .int .i64 20] w fun r w' => ∃ s, r = .returned (.tuple #[.pointer (some ⟨s, 0, none⟩), .int .i64 0]) ∧ SpAt w' B s g v kO0 0 0 20 ∧ Below w.heap.size w w' :=
  snew_in w B g v kO0 0 20 h (by decide) (by rw [kO0_len]; decide) (by rw [kO0_len]; decide)
theorem k16_a (w : World) (B s g : Nat) (v : Value) (h : SpAt w B s g v kO0 0 0 20) : Calls Tryd.prog 24 #[.pointer (some ⟨s, 0, none⟩), .agg #[.int .i64 1, .int .i64 3, .bool false, .int .i64 0]] w fun r w' => r = .returned (.tuple #[.int .i64 0, .int .i64 0]) ∧ SpAt w' B s g v kO1 0 3 20 ∧ Below B w w' :=
  alloc_ok w B s g v kO0 0 0 20 h (by rw [kO0_len]; decide) 1 3 0 3 (by decide) (by decide) (by decide) (by decide)
theorem k16_set (w : World) (B s g : Nat) (v : Value) (h : SpAt w B s g v kO1 0 3 20) : Calls Tryd.prog 11 #[.pointer (some ⟨s, 0, none⟩), .int .i64 0, .int .i64 0, .int .i64 0] w (SetP w B s g v kO2 0 3 20) :=
  setptr_to w B s g v kO1 0 3 20 h (by rw [kO1_len]; decide) 0 0 0 (by decide) (by decide) kO1_h.1 (by rw [kO1_h.2.1]; decide) (by decide) (by decide)
theorem k16_wr (w : World) (B s g : Nat) (v : Value) (h : SpAt w B s g v kO2 0 3 20) (r c : Nat) (hr : Rd b8 w w.heap.size (some ⟨r, 0, none⟩) [120#8]) (hn : some r ≠ v.ownBlock) : Calls Tryd.prog 15 #[.pointer (some ⟨s, 0, none⟩), .int .i64 0, .int .i64 1, .slice (some ⟨r, 0, none⟩) 1 c] w (SetP w B s g v kO3 0 3 20) := by
  have k := write_ok w B s g v kO2 0 3 20 h (by rw [kO2_len]; decide) 0 1 (some ⟨r, 0, none⟩) c [120#8] (by decide) (by decide) kO2_h.1 (by rw [kO2_h.2.2]; decide) hr (fun _ x e => by injection e with e; rw [← e]; exact hn)
  rw [kO2_h.2.1] at k
  exact k
theorem k16_p (w : World) (B s g : Nat) (v : Value) (h : SpAt w B s g v kO3 0 3 20) : Calls Tryd.prog 9 #[.pointer (some ⟨s, 0, none⟩), .int .i64 0, .int .i64 0] w (RetP (.tuple #[.int .i64 0, .int .i64 0]) w) := by
  have k := Ptr_c w B s g v kO3 0 3 20 h (by rw [kO3_len]; decide) 0 0 (by decide) (by decide) kO3_h.1 (by rw [kO3_h.2.1]; decide)
  rw [kO3_p.1, kO3_p.2] at k
  exact k
theorem k16_r (w : World) (B s g : Nat) (v : Value) (h : SpAt w B s g v kO3 0 3 20) : Calls Tryd.prog 13 #[.pointer (some ⟨s, 0, none⟩), .int .i64 0, .int .i64 0, .int .i64 3] w (MkEP b8 5 [0#8, 120#8, 0#8] 0 w) := by
  have k := read_ok w B s g v kO3 0 3 20 h (by rw [kO3_len]; decide) 0 0 3 (by decide) (by decide) kO3_h.1 (by rw [kO3_h.2.2]; decide)
  rw [kO3_h.2.1, kO3_b] at k
  exact k
theorem k16_q (w : World) (B s g : Nat) (v : Value) (h : SpAt w B s g v kO3 0 3 20) : Calls Tryd.prog 9 #[.pointer (some ⟨s, 0, none⟩), .int .i64 0, .int .i64 1] w (RetP (.tuple #[.int .i64 0, .int .i64 1]) w) :=
  Ptr_no w B s g v kO3 0 3 20 h (by rw [kO3_len]; decide) 0 1 (by decide) (by decide) kO3_h.1 (.inr ⟨by decide, by rw [kO3_h.2.1]; decide⟩)
theorem k16_w (w : World) (B s g : Nat) (v : Value) (h : SpAt w B s g v kO3 0 3 20) : Calls Tryd.prog 18 #[.pointer (some ⟨s, 0, none⟩)] w (RetP (.int .i64 0) w) := by
  have k := well_c w B s g v kO3 0 3 20 h (by rw [kO3_len]; decide)
  rw [kO3_w] at k
  exact k
theorem k16_l (w : World) (B s g : Nat) (v : Value) (h : SpAt w B s g v kO3 0 3 20) : Calls Tryd.prog 43 #[.pointer (some ⟨s, 0, none⟩), .int .i64 0] w (RetP (.tuple #[.agg #[.int .i64 1, .int .i64 3, .bool false, .int .i64 0], .int .i64 0]) w) := by
  have k := look_ok w B s g v kO3 0 3 20 h (by rw [kO3_len]; decide) 0 (by decide) (by decide) kO3_h.1
  rw [kO3_h.2.1, kO3_h.2.2] at k
  exact k
theorem k16_t (w : World) (B s g : Nat) (v : Value) (h : SpAt w B s g v kO3 0 3 20) (ht : w.cell? ⟨2, 15, none⟩ = some (.int .u8 4)) : Calls Tryd.prog 20 #[.pointer (some ⟨s, 0, none⟩), .int .i64 0] w (RetP (.string (strB [49#8, 32#8, 51#8, 58#8, 32#8, 48#8, 32#8, 48#8, 48#8, 55#8, 56#8, 48#8, 48#8])) w) :=
  text_k w s 0 ⟨fun W hW => k16_l W B s g v (h.below hW), fun W hW => k16_p W B s g v (h.below hW), fun W hW => k16_r W B s g v (h.below hW), ht⟩
theorem rd1m (w : World) (E : TypeId) (m : Nat × Nat) : Rd b8 (w.alloc (.cells #[.int .u8 120] E m)) (w.alloc (.cells #[.int .u8 120] E m)).heap.size (some ⟨w.heap.size, 0, none⟩) [120#8] := by
  intro j hj
  have hj0 : j = 0 := by have : [120#8].length = 1 := rfl; omega
  subst hj0
  refine ⟨_, rfl, by rw [World.size_alloc]; exact Nat.lt_succ_self _, ?_⟩
  exact cell_of_row _ _ 0 _ _ _ (heap_alloc_new w (.cells #[.int .u8 120] E m))
theorem known16_c (w : World) (ht : w.cell? ⟨2, 15, none⟩ = some (.int .u8 4)) : Calls Tryd.prog 7 #[] w (RetP (.bool true) w) := by
  have HT := Lib.hid ht
  have kc := fun (x : Int) (W : World) => Joins.run_convert_bytes_const_at (P := Tryd.prog) W 30 5 #[.int .u8 x] 1 1 W.heap.size rfl Tryd.underlying30 Tryd.underlying5
  have HKC := Lib.hid kc
  clear kc ht
  go_enter Tryd.func7, Tryd.ntmps7
  go_wp2_with fail
  refine Calls.mono (k16_new w) ?_
  rintro r w1 ⟨g, v, rfl, h1, b1⟩
  have HB1 := Lib.hid b1
  clear b1
  go_wp2_with fail
  refine Calls.mono (k16_sp _ _ _ _ h1) ?_
  rintro r w2 ⟨s, rfl, h2, b2⟩
  have HB2 := Lib.hid (HB1.out.trans (b2.mono HB1.out.size))
  obtain ⟨c0, c1, c2, c3⟩ := h2.four
  have H2 := Lib.hid h2
  clear b2 h1 h2 HB1
  go_wp2_with fail
  refine Calls.mono (k16_a _ _ _ _ _ H2.out) ?_
  rintro r w3 ⟨rfl, h3, b3⟩
  have HB3 := Lib.hid (HB2.out.trans b3)
  have H3 := Lib.hid h3
  clear b3 c0 c1 c2 c3 h3 H2 HB2
  go_wp2_with fail
  refine Calls.mono (k16_set _ _ _ _ _ H3.out) ?_
  rintro r w4 ⟨rfl, h4, _, b4⟩
  have HB4 := Lib.hid (HB3.out.trans b4)
  have H4 := Lib.hid h4
  have kc := HKC.out 120 w4
  clear b4 h4 H3 HB3
  go_wp2_with fail
  clear kc
  have hg5 := Gw.alloc w4 (.cells #[.int .u8 120] 5 (1, 2))
  refine Calls.mono (k16_wr _ _ _ _ _ (H4.out.below hg5) w4.heap.size 1 (rd1m w4 5 (1, 2)) (fun e => by have := H4.out.mem.row.lt _ e.symm; omega)) ?_
  rintro r w5 ⟨rfl, h5, _, b5⟩
  have HB5 := Lib.hid ((HB4.out.trans (hg5.mono HB4.out.size)).trans b5)
  have H5 := Lib.hid h5
  clear b5 h5 hg5 H4 HB4
  go_wp2_with fail
  refine Calls.mono (k16_p _ _ _ _ _ H5.out) ?_
  rintro r w6 ⟨rfl, b6⟩
  have HB6 := Lib.hid (HB5.out.trans (b6.mono HB5.out.size))
  have H6 := Lib.hid (H5.out.below b6)
  clear b6 H5 HB5
  go_wp2_with fail
  refine Calls.mono (k16_r _ _ _ _ _ H6.out) ?_
  rintro r w7 ⟨A, c7, rfl, hc7, ho7, b7⟩
  have HB7 := Lib.hid (HB6.out.trans (b7.mono HB6.out.size))
  have H7 := Lib.hid (H6.out.below b7)
  have HR7 := Lib.hid ho7.rd
  clear b7 H6 HB6 ho7 hc7
  go_wp2_with fail
  refine Calls.mono (k16_q _ _ _ _ _ H7.out) ?_
  rintro r w8 ⟨rfl, b8_⟩
  have HB8 := Lib.hid (HB7.out.trans (b8_.mono HB7.out.size))
  have H8 := Lib.hid (H7.out.below b8_)
  have cv := str_conv [0#8, 120#8, 0#8] A c7 _ w8 (HR7.out.below b8_)
  rw [show strB [0#8, 120#8, 0#8] = ⟨#[0, 120, 0]⟩ from rfl, show [0#8, 120#8, 0#8].length = 3 from rfl] at cv
  clear b8_ H7 HB7 HR7
  go_wp2_with fail
  refine Calls.mono (k16_w _ _ _ _ _ H8.out) ?_
  rintro r w9 ⟨rfl, b9⟩
  have HB9 := Lib.hid (HB8.out.trans (b9.mono HB8.out.size))
  have H9 := Lib.hid (H8.out.below b9)
  clear b9 H8 HB8 cv
  go_wp2_with fail
  refine Calls.mono (k16_t _ _ _ _ _ H9.out (cell_later HB9.out HT.out)) ?_
  rintro r w10 ⟨rfl, b10⟩
  have HB10 := Lib.hid (HB9.out.trans (b10.mono HB9.out.size))
  have es : strB [49#8, 32#8, 51#8, 58#8, 32#8, 48#8, 32#8, 48#8, 48#8, 55#8, 56#8, 48#8, 48#8] = ⟨#[49, 32, 51, 58, 32, 48, 32, 48, 48, 55, 56, 48, 48]⟩ := rfl
  rw [es]
  clear b10 H9 HB9 es
  go_wp2_with fail
  go_ret
  exact ⟨rfl, HB10.out⟩
end Go.Proofs.YtfodefgihicafaaDoor
/- Words of numbers, bytes and rows; strconv.Itoa below a hundred; a builder; no graphs. Conditions: lengths. -/
namespace Go.Proofs.YtfodefgihicafaaDoor
set_option linter.unusedVariables false
set_option linter.unusedSimpArgs false
open Go.RowKit
/-- A number below a hundred in digits. -/
def decL (n : Nat) : List (BitVec 8) := if n < 10 then [BitVec.ofNat 8 (48 + n)] else [BitVec.ofNat 8 (48 + n / 10), BitVec.ofNat 8 (48 + n % 10)]
def hexB (bs : List (BitVec 8)) : List (BitVec 8) := bs.flatMap fun x => [hexU (x.toNat / 16), hexU (x.toNat % 16)]
def ptrT (ps : List Int) : List (BitVec 8) := ps.flatMap fun p => 32#8 :: decL p.toNat
def xT (bs : List (BitVec 8)) : List (BitVec 8) := if bs = [] then [] else [32#8, 120#8]
def lineT (m : List Int × List (BitVec 8)) : List (BitVec 8) := ptrT m.1 ++ xT m.2 ++ hexB m.2
def sB (s : ByteArray) : List (BitVec 8) := s.data.toList.map UInt8.toBitVec
def nodeT (i : Nat) (m : List Int × List (BitVec 8)) : List (BitVec 8) := decL (i + 1) ++ [58#8] ++ lineT m ++ [10#8]
def nodesT : List (List Int × List (BitVec 8)) → Nat → List (BitVec 8)
  | [], _ => []
  | m :: r, i => nodeT i m ++ nodesT r (i + 1)
theorem hexB_snoc (l : List (BitVec 8)) (x : BitVec 8) : hexB (l ++ [x]) = hexB l ++ [hexU (x.toNat / 16), hexU (x.toNat % 16)] := by unfold hexB; rw [List.flatMap_append]; simp
theorem hexB_len : ∀ bs : List (BitVec 8), (hexB bs).length = 2 * bs.length
  | [] => rfl
  | x :: r => by
    have h := hexB_len r
    have e : hexB (x :: r) = [hexU (x.toNat / 16), hexU (x.toNat % 16)] ++ hexB r := rfl
    rw [e, List.length_append, h, List.length_cons]
    simp; omega
theorem strB_sB (s : ByteArray) : strB (sB s) = s := by
  unfold strB strL sB
  rw [List.map_map]
  have : (UInt8.ofBitVec ∘ UInt8.toBitVec) = id := rfl
  rw [this, List.map_id]
theorem strB_app (a b : List (BitVec 8)) : strB a ++ strB b = strB (a ++ b) := by
  have h : (strB a ++ strB b).data = (strB (a ++ b)).data := by
    rw [ByteArray.data_append]
    unfold strB strL
    simp
  cases e1 : strB a ++ strB b
  cases e2 : strB (a ++ b)
  rw [e1, e2] at h
  exact congrArg ByteArray.mk h
def smallS : ByteArray := ⟨#[48, 48, 48, 49, 48, 50, 48, 51, 48, 52, 48, 53, 48, 54, 48, 55, 48, 56, 48, 57, 49, 48, 49, 49, 49, 50, 49, 51, 49, 52, 49, 53, 49, 54, 49, 55, 49, 56, 49, 57, 50, 48, 50, 49, 50, 50, 50, 51, 50, 52, 50, 53, 50, 54, 50, 55, 50, 56, 50, 57, 51, 48, 51, 49, 51, 50, 51, 51, 51, 52, 51, 53, 51, 54, 51, 55, 51, 56, 51, 57, 52, 48, 52, 49, 52, 50, 52, 51, 52, 52, 52, 53, 52, 54, 52, 55, 52, 56, 52, 57, 53, 48, 53, 49, 53, 50, 53, 51, 53, 52, 53, 53, 53, 54, 53, 55, 53, 56, 53, 57, 54, 48, 54, 49, 54, 50, 54, 51, 54, 52, 54, 53, 54, 54, 54, 55, 54, 56, 54, 57, 55, 48, 55, 49, 55, 50, 55, 51, 55, 52, 55, 53, 55, 54, 55, 55, 55, 56, 55, 57, 56, 48, 56, 49, 56, 50, 56, 51, 56, 52, 56, 53, 56, 54, 56, 55, 56, 56, 56, 57, 57, 48, 57, 49, 57, 50, 57, 51, 57, 52, 57, 53, 57, 54, 57, 55, 57, 56, 57, 57]⟩
set_option maxHeartbeats 1000000
set_option maxRecDepth 100000
/-- A builder of one's own that holds xs. -/
def BdS (W : World) (B b : Nat) (xs : List (BitVec 8)) : Prop := B ≤ W.heap.size ∧ ∃ v, BdAt W B b v xs
theorem BdS.below {W W' : World} {B b : Nat} {xs : List (BitVec 8)} (h : BdS W B b xs) (hb : Below W.heap.size W W') : BdS W' B b xs := by
  obtain ⟨h1, v, h2⟩ := h
  exact ⟨Nat.le_trans h1 hb.size, v, h2.below hb⟩
def WsS (w : World) (B b : Nat) (zs : List (BitVec 8)) (e : Ending) (w' : World) : Prop := ∃ n, e = .returned (.tuple #[.int .i64 n, .nilIface]) ∧ BdS w' B b zs ∧ Below B w w'
theorem ws_s (w : World) (B b : Nat) (xs ys : List (BitVec 8)) (h : BdS w B b xs) (hl : xs.length + ys.length ≤ 4294967296) :
    Calls Tryd.prog 50 #[.pointer (some ⟨b, 0, none⟩), .string (strB ys)] w (WsS w B b (xs ++ ys)) := by
  obtain ⟨hB, v, h1⟩ := h
  refine (writeString_c w B b v xs ys h1 hl hB).mono ?_
  rintro e w' ⟨v', rfl, h2, k⟩
  exact ⟨_, rfl, ⟨Nat.le_trans hB k.two.size, v', h2⟩, h1.kb k hB⟩
theorem BdS.str (w : World) (B b : Nat) (xs : List (BitVec 8)) (h : BdS w B b xs) : Calls Tryd.prog 54 #[.pointer (some ⟨b, 0, none⟩)] w fun e w' => e = .returned (.string (strB xs)) ∧ Below B w w' := by
  obtain ⟨hB, v, h1⟩ := h
  exact string_c B b v xs w h1 hB
theorem BdS.new {w W : World} {b : Nat} (h : Bk W b 101 #[.pointer none, .slice none 0 0]) (hb : w.heap.size ≤ b) (hW : w.heap.size ≤ W.heap.size) : BdS W w.heap.size b [] :=
  ⟨hW, _, hb, ⟨_, .inl rfl, h⟩, Ow.nil_ _ _ _ _⟩
theorem app_sd (a : List (BitVec 8)) (b : ByteArray) : strB a ++ b = strB (a ++ sB b) := by rw [← strB_app, strB_sB]
theorem app_ds (a : ByteArray) (b : List (BitVec 8)) : a ++ strB b = strB (sB a ++ b) := by rw [← strB_app, strB_sB]
theorem ext3 (a b : BitVec 8) : (strB [49#8, a, b]).size = 3 ∧ (strB [49#8, a, b]).extract 1 3 = strB [a, b] := by
  refine ⟨rfl, ?_⟩
  have h : ((strB [49#8, a, b]).extract 1 3).data = (strB [a, b]).data := by
    rw [ByteArray.data_extract]
    unfold strB strL
    simp
  cases e1 : (strB [49#8, a, b]).extract 1 3
  cases e2 : strB [a, b]
  rw [e1, e2] at h
  exact congrArg ByteArray.mk h
theorem wrap_u8 (x : BitVec 8) : IntKind.u64.wrap (U8 x) = U8 x := by
  have h := x.isLt
  have e : U8 x = (x.toNat : Int) := rfl
  rw [e]
  simp only [IntKind.wrap, IntKind.signed, IntKind.bits]
  simp
  omega
theorem fu_w (w : World) (h : w.cell? ⟨2, 15, none⟩ = some (.int .u8 4)) (x : BitVec 8) :
    Calls Tryd.prog 53 #[.int .u64 (bits .or .u64 256 (IntKind.u64.wrap (U8 x))), .int .i64 16] w fun e w' => e = .returned (.string (strB [49#8, hexU (x.toNat / 16), hexU (x.toNat % 16)])) ∧ Below w.heap.size w w' := by
  rw [wrap_u8]
  exact fu_c w h x
theorem tab_lt {w : World} (h : w.cell? ⟨2, 15, none⟩ = some (.int .u8 4)) : 2 < w.heap.size := by
  unfold World.cell? at h
  cases hh : w.heap[2]? with
  | none => rw [hh] at h; cases h
  | some o => exact (Array.getElem?_eq_some_iff.1 hh).1
end Go.Proofs.YtfodefgihicafaaDoor
/- strconv.Itoa at any int: the shelf's facts of this dump. No conditions. -/
namespace Go.Proofs.YtfodefgihicafaaDoor
set_option linter.unusedVariables false
set_option linter.unusedSimpArgs false
open Go.Proofs
open Go.Shelf
open Go.RowKit
def laysI_ren : Go.Shelf.Ren := ⟨fun | 171 => 51 | 243 => 74 | 246 => 82 | 283 => 83 | 284 => 84 | 285 => 85 | 286 => 86 | 129 => 91 | 317 => 90 | 318 => 92 | 319 => 93 | 320 => 94 | 337 => 95 | 338 => 96 | n => n, fun | 3 => 3 | 9 => 9 | 2 => 2 | 4 => 4 | 171 => 136 | 0 => 0 | 53 => 68 | 37 => 30 | 5 => 5 | 173 => 139 | 212 => 144 | 51 => 145 | 20 => 20 | 213 => 146 | 46 => 128 | 232 => 149 | 233 => 150 | n => n, fun | 17 => 0 | 18 => 1 | 19 => 2 | n => n⟩
theorem laysI : Go.Proofs.LaysM.n171 Tryd.prog laysI_ren where
  mixed := by kernel_rfl
  f129 := Tryd.func91.trans (congrArg some (by kernel_rfl))
  f171 := Tryd.func51.trans (congrArg some (by kernel_rfl))
  f243 := Tryd.func74.trans (congrArg some (by kernel_rfl))
  f246 := Tryd.func82.trans (congrArg some (by kernel_rfl))
  f283 := Tryd.func83.trans (congrArg some (by kernel_rfl))
  f284 := Tryd.func84.trans (congrArg some (by kernel_rfl))
  f285 := Tryd.func85.trans (congrArg some (by kernel_rfl))
  f286 := Tryd.func86.trans (congrArg some (by kernel_rfl))
  f317 := Tryd.func90.trans (congrArg some (by kernel_rfl))
  f318 := Tryd.func92.trans (congrArg some (by kernel_rfl))
  f319 := Tryd.func93.trans (congrArg some (by kernel_rfl))
  f320 := Tryd.func94.trans (congrArg some (by kernel_rfl))
  f337 := Tryd.func95.trans (congrArg some (by kernel_rfl))
  f338 := Tryd.func96.trans (congrArg some (by kernel_rfl))
  t0 := Tryd.underlying0
  a0 := Tryd.isAgg0
  z0 := Tryd.sizeOf0
  v0 := Tryd.zeroValue0
  t2 := Tryd.underlying2
  a2 := Tryd.isAgg2
  z2 := Tryd.sizeOf2
  v2 := Tryd.zeroValue2
  t3 := Tryd.underlying3
  a3 := Tryd.isAgg3
  z3 := Tryd.sizeOf3
  v3 := Tryd.zeroValue3
  t4 := Tryd.underlying4
  a4 := Tryd.isAgg4
  z4 := Tryd.sizeOf4
  v4 := Tryd.zeroValue4
  t5 := Tryd.underlying5
  a5 := Tryd.isAgg5
  z5 := Tryd.sizeOf5
  v5 := Tryd.zeroValue5
  t9 := Tryd.underlying9
  a9 := Tryd.isAgg9
  z9 := Tryd.sizeOf9
  v9 := Tryd.zeroValue9
  t20 := Tryd.underlying20
  a20 := Tryd.isAgg20
  z20 := Tryd.sizeOf20
  v20 := Tryd.zeroValue20
  t37 := Tryd.underlying30
  a37 := Tryd.isAgg30
  z37 := Tryd.sizeOf30
  v37 := Tryd.zeroValue30
  t46 := Tryd.underlying128
  a46 := Tryd.isAgg128
  z46 := Tryd.sizeOf128
  v46 := Tryd.zeroValue128
  t51 := Tryd.underlying145
  a51 := Tryd.isAgg145
  z51 := Tryd.sizeOf145
  v51 := Tryd.zeroValue145
  t53 := Tryd.underlying68
  a53 := Tryd.isAgg68
  z53 := Tryd.sizeOf68
  v53 := Tryd.zeroValue68
  t171 := Tryd.underlying136
  a171 := Tryd.isAgg136
  z171 := Tryd.sizeOf136
  v171 := Tryd.zeroValue136
  t173 := Tryd.underlying139
  a173 := Tryd.isAgg139
  z173 := Tryd.sizeOf139
  v173 := Tryd.zeroValue139
  t212 := Tryd.underlying144
  a212 := Tryd.isAgg144
  z212 := Tryd.sizeOf144
  v212 := Tryd.zeroValue144
  t213 := Tryd.underlying146
  a213 := Tryd.isAgg146
  z213 := Tryd.sizeOf146
  t232 := Tryd.underlying149
  a232 := Tryd.isAgg149
  z232 := Tryd.sizeOf149
  v232 := Tryd.zeroValue149
  t233 := Tryd.underlying150
  a233 := Tryd.isAgg150
  z233 := Tryd.sizeOf150
  v233 := Tryd.zeroValue150
  g17 := by kernel_rfl
  g18 := by kernel_rfl
  g19 := by kernel_rfl
  i0 := by kernel_rfl
  i2 := by kernel_rfl
  i3 := by kernel_rfl
  i4 := by kernel_rfl
  i5 := by kernel_rfl
  i9 := by kernel_rfl
  i20 := by kernel_rfl
  i37 := by kernel_rfl
  i46 := by kernel_rfl
  i51 := by kernel_rfl
  i53 := by kernel_rfl
  i171 := by kernel_rfl
  i173 := by kernel_rfl
  i212 := by kernel_rfl
  i232 := by kernel_rfl
  i233 := by kernel_rfl
  m17 := by kernel_rfl
  m18 := by kernel_rfl
  m19 := by kernel_rfl
theorem itoaG (n : Int) (h0 : -9223372036854775808 ≤ n) (h1 : n ≤ 9223372036854775807) (w : World) (htab : Lib.TabIs Tryd.prog w "internal/strconv.uint64pow10" .u64 Lib.pow10Tab) :
    Calls Tryd.prog 51 #[.int .i64 n] w fun e w' => e = .returned (.string ⟨(Lib.itoa n).toArray⟩) ∧ ∃ k os, w' = Sort.grow (w.drewN k) os := Any.strconv_Itoa laysI n h0 h1 w htab
end Go.Proofs.YtfodefgihicafaaDoor
/- Stage 16's cards with both tables: math/bits.deBruijn64tab's place 15 and all of strconv's powers of ten. Conditions: the row's own. -/
namespace Go.Proofs.YtfodefgihicafaaDoor
set_option linter.unusedVariables false
set_option linter.unusedSimpArgs false
open Go.RowKit
def laidO4 : List (String × DataW Unit) := Rows.objectPlaysRow.laid
def nm64 : String := match Rows.objectPlaysRow.laid with
  | [_, (n, _), _] => n
  | _ => default
def nm10 : String := match Rows.objectPlaysRow.laid with
  | [_, _, (n, _)] => n
  | _ => default
theorem gT64 : Tryd.prog.globalNamed nm64 = some 2 := by kernel_rfl
theorem gT64t : (Tryd.prog.globals[2]?).map (·.type) = some 150 := by kernel_rfl
def tab64 : List Int := match (Rows.laid_math_bits_deBruijn64tab : DataW Unit) with
  | .agg xs => xs.map fun x => match x with
    | .lit (.int _ z) => z
    | _ => 0
  | _ => []
theorem tab64_is : (Rows.laid_math_bits_deBruijn64tab : DataW Unit) = Lib.tabData .u8 tab64 := by kernel_rfl
theorem tab64_at : 15 < tab64.length ∧ tab64.getD 15 0 = 4 := by decide +kernel
theorem gT10 : Tryd.prog.globalNamed nm10 = some 0 := by kernel_rfl
theorem gT10t : (Tryd.prog.globals[0]?).map (·.type) = some 144 := by kernel_rfl
theorem nm10_is : nm10 = "internal/strconv.uint64pow10" := by kernel_rfl
theorem tab10_is : (Rows.laid_internal_strconv_uint64pow10 : DataW Unit) = Lib.tabData .u64 Lib.pow10Tab := by kernel_rfl
theorem of_laid {W : World} (h : laidMetH Tryd.prog laidO4 W) : W.cell? ⟨2, 15, none⟩ = some (.int .u8 4) ∧ Lib.TabIs Tryd.prog W "internal/strconv.uint64pow10" .u64 Lib.pow10Tab := by
  rw [MakeChecks.laidMetH_plain _ _ _ (by kernel_rfl)] at h
  have h2 : laidMet Tryd.prog [(nm64, Rows.laid_math_bits_deBruijn64tab), (nm10, Rows.laid_internal_strconv_uint64pow10)] W := laidMet.tail h
  have h3 : laidMet Tryd.prog [(nm10, Rows.laid_internal_strconv_uint64pow10)] W := laidMet.tail h2
  rw [tab64_is] at h2
  rw [tab10_is] at h3
  have ht := Lib.tabIs_of_head gT64 gT64t Tryd.underlying150 Tryd.underlying5 (by kernel_rfl) (by kernel_rfl) h2
  have := ht.cell gT64 15 tab64_at.1
  rw [tab64_at.2] at this
  have ht3 := Lib.tabIs_of_head gT10 gT10t Tryd.underlying144 Tryd.underlying68 (by kernel_rfl) (by kernel_rfl) h3
  rw [nm10_is] at ht3
  exact ⟨this, ht3⟩
theorem door_met (os : Os) (args : Array Value) : laidMetH Tryd.prog laidO4 ((World.doorLaid Tryd.prog 24 os).forCall (fun _ _ => 0) ⟨#[], args, []⟩).memory :=
  laidMetH_of_parts3 (fuel := 8) (laidMet_of_run' 8 (by kernel_rfl) (by kernel_rfl)) (by kernel_rfl) (by kernel_rfl)
end Go.Proofs.YtfodefgihicafaaDoor
/- loamref14's Alloc and Head of a space. Conditions: lengths. -/
namespace Go.Proofs.YtfodefgihicafaaDoor
set_option linter.unusedVariables false
set_option linter.unusedSimpArgs false
open Go.RowKit
theorem Two.one {a b : World} {s : Nat} (h : Two a b s none) : a.grownBy b (some s) := ⟨h.os, h.tape, h.output, h.size, fun k hk h1 => h.block k hk (fun e => h1 (by rw [e])) (by simp)⟩
set_option maxHeartbeats 400000
set_option maxRecDepth 100000
theorem rhead_in (w : World) (R b t e c : Nat) (A : Option Addr) (ws : List (BitVec 64)) (hr : Bk w R 29 #[.slice A ws.length c, .int .i64 b, .int .i64 t, .int .i64 e]) (hrd : Rd u64v w w.heap.size A ws) (i : Nat) (hi1 : b ≤ i) (hi2 : i < t) (hl : ws.length ≤ 100000) (hiw : i < ws.length) :
    Calls Tryd.prog 55 #[.pointer (some ⟨R, 0, none⟩), .int .i64 i] w (RetP (unV ws[i]) w) := by
  have hb := Gw.alloc w (.cells #[.int .i64 0, .int .i64 0, .bool false, .int .i64 0] 74)
  have hr1 := hr.below hb hr.lt
  have c0 := hr1.cell 0
  have c1 := hr1.cell 1
  have c2 := hr1.cell 2
  obtain ⟨ad, rfl, hadb, hcx⟩ := (hrd.below hb) i hiw
  obtain ⟨x, hx⟩ : ∃ x, x = ws[i] := ⟨_, rfl⟩
  rw [← hx] at hcx ⊢
  unfold u64v at hcx
  have HU := Lib.hid (runpack_c x (w.alloc (.cells #[.int .i64 0, .int .i64 0, .bool false, .int .i64 0] 74)))
  obtain ⟨N, hN⟩ : ∃ N, N = ws.length := ⟨_, rfl⟩
  rw [← hN] at c0
  have u1 : ¬ i < b := by omega
  have u2 : ¬ t ≤ i := by omega
  have p1 : (0 : Int) ≤ (i : Int) := by omega
  have p2 : (i : Int) < (N : Int) := by omega
  have hk := Bk.new w 74 #[.int .i64 0, .int .i64 0, .bool false, .int .i64 0]
  have HK := Lib.hid hk
  have HB := Lib.hid hb
  clear hr hrd hb hr1 hk hi1 hi2 hiw hx hl hN hadb
  go_enter Tryd.func55, Tryd.ntmps55
  go_wp2_with fail
  refine Calls.mono HU.out ?_
  rintro r w2 ⟨rfl, b2⟩
  have hk2 := HK.out.below b2 HK.out.lt
  have f0 := hk2.free 0
  have f1 := hk2.free 1
  have f2 := hk2.free 2
  have f3 := hk2.free 3
  obtain ⟨d0, d1, d2, d3⟩ := hk2.four
  have hkl := hk2.lt
  have HB2 := Lib.hid (HB.out.trans (b2.mono HB.out.size))
  unfold unV
  clear HU b2 hk2 HK c0 c1 c2 hcx
  go_wp2_with fail
  refine bodyPost_ret (v := .tuple #[.agg #[.int .i64 (unP x), .int .i64 (unB x), .bool (unM' x), .int .i64 (unT x)], .int .i64 (unE x)]) (by simp [results, Tryd.results55, go_sem, d0, d1, d2, d3]) rfl ⟨rfl, ?_⟩
  exact (((HB2.out.setCell (p := ⟨w.heap.size, 0, none⟩) (Nat.le_refl _) _).setCell (p := ⟨w.heap.size, 1, none⟩) (Nat.le_refl _) _).setCell (p := ⟨w.heap.size, 2, none⟩) (Nat.le_refl _) _).setCell (p := ⟨w.heap.size, 3, none⟩) (Nat.le_refl _) _
theorem rhead_out (w : World) (R b t e c N : Nat) (A : Option Addr) (hr : Bk w R 29 #[.slice A N c, .int .i64 b, .int .i64 t, .int .i64 e]) (i : Int) (hi : i < (b : Int) ∨ (¬ i < (b : Int) ∧ (t : Int) ≤ i)) :
    Calls Tryd.prog 55 #[.pointer (some ⟨R, 0, none⟩), .int .i64 i] w (RetP (.tuple #[.agg #[.int .i64 0, .int .i64 0, .bool false, .int .i64 0], .int .i64 1]) w) := by
  have hb := Gw.alloc w (.cells #[.int .i64 0, .int .i64 0, .bool false, .int .i64 0] 74)
  have hr1 := hr.below hb hr.lt
  have c0 := hr1.cell 0
  have c1 := hr1.cell 1
  have c2 := hr1.cell 2
  have hk := Bk.new w 74 #[.int .i64 0, .int .i64 0, .bool false, .int .i64 0]
  have f0 := hk.free 0
  have f1 := hk.free 1
  have f2 := hk.free 2
  have f3 := hk.free 3
  clear hr hr1 hk
  rcases hi with h1 | ⟨h1, h2⟩
  all_goals
    go_enter Tryd.func55, Tryd.ntmps55
    go_wp2_with fail
    refine bodyPost_ret (v := .tuple #[.agg #[.int .i64 0, .int .i64 0, .bool false, .int .i64 0], .int .i64 1]) (by simp [results, Tryd.results55, go_sem]) rfl ⟨rfl, Gw.alloc w _⟩
end Go.Proofs.YtfodefgihicafaaDoor
