/- loamref14's Bytes and SetBytes. Conditions: lengths. -/
import Derived.Test.YtobcpcobgdmleaaMmL
import Derived.Test.YtobcpcobgdmleaaOpenR
namespace Go.Proofs.Ytobcpcobgdmleaa
set_option linter.unusedVariables false
set_option linter.unusedSimpArgs false
open Go.RowKit
theorem ow_sl {α : Type} {f : α → Value} {E : TypeId} {w : World} {base : Nat} {v : Value} {xs : List α} (h : Ow f E w base v xs) : ∃ A n c, v = .slice A n c := by
  obtain ⟨A, c, e, _⟩ := h.form
  exact ⟨A, _, c, e⟩
theorem lowB8 : lowB 8 = 255#64 := by decide +kernel
theorem with_set (y : BitVec 64) (x : BitVec 8) (s : Nat) (hs : s ≤ 56) : withB y (s : Int) 8 (x.setWidth 64) = (y &&& ~~~(255#64 <<< s)) ||| ((x.setWidth 64) <<< s) := by
  have hw : wB (s : Int) 8 = true := by unfold wB; simp; omega
  have hx : x.setWidth 64 &&& 255#64 = x.setWidth 64 := by
    apply BitVec.eq_of_getLsbD_eq
    intro i hi
    rw [BitVec.getLsbD_and, ff_bit, BitVec.getLsbD_setWidth]
    by_cases h : i < 8
    · simp [h]
    · rw [BitVec.getLsbD_of_ge x i (by omega)]; simp
  unfold withB
  rw [if_pos hw, lowB8, hx]
  rfl
attribute [local go_sem] u8_u64 wrapU64
set_option maxHeartbeats 400000
set_option maxRecDepth 100000
theorem rbyte_c (w : World) (A : Option Addr) (c : Nat) (ws : List (BitVec 64)) (a : Nat) (hr : Rd u64v w w.heap.size A ws) (ha : a < 8 * ws.length) (hl : ws.length ≤ 100000) :
    Calls Try.prog 28 #[.slice A ws.length c, .int .i64 a] w fun e w' => e = .returned (.int .u8 (U8 (byteAt ws a))) ∧ w' = w := by
  obtain ⟨j, hj⟩ : ∃ j, j = a / 8 := ⟨_, rfl⟩
  obtain ⟨b, hb⟩ : ∃ b, b = a % 8 := ⟨_, rfl⟩
  obtain ⟨t, ht⟩ : ∃ t, t = 8 * b := ⟨_, rfl⟩
  have hjl : j < ws.length := by omega
  obtain ⟨ad, rfl, hadb, hcl⟩ := hr j hjl
  obtain ⟨y, hy⟩ : ∃ y, y = ws[j] := ⟨_, rfl⟩
  have hv : byteAt ws a = (y >>> t).setWidth 8 := by
    unfold byteAt
    rw [← hj, ← hb, ← ht, List.getD_eq_getElem?_getD, List.getElem?_eq_getElem hjl, hy]
    rfl
  rw [hv, ← u8_shr]
  rw [← hy] at hcl
  unfold u64v at hcl
  obtain ⟨N, hN⟩ : ∃ N, N = ws.length := ⟨_, rfl⟩
  rw [← hN]
  have d3 : (a : Int).tdiv 8 = (j : Int) := by rw [Int.tdiv_eq_ediv_of_nonneg (by omega)]; omega
  have d4 : (a : Int).tmod 8 = (b : Int) := by rw [Int.tmod_eq_emod_of_nonneg (by omega)]; omega
  have d9 : (8 : Int) * (b : Int) = (t : Int) := by omega
  have p1 : (0 : Int) ≤ (j : Int) := by omega
  have p2 : (j : Int) < (N : Int) := by omega
  have p3 : (j : Int) ≤ 1000000 := by omega
  have p4 : (0 : Int) ≤ (t : Int) := by omega
  have p5 : (t : Int) ≤ 56 := by omega
  clear hj hb ht hv hy hN hr hadb hjl hl ha
  go_enter Try.func28, Try.ntmps28
  go_wp2_with fail
  go_ret
  exact ⟨rfl, rfl⟩
theorem bytesM_snoc (ws : List (BitVec 64)) (a k : Nat) : bytesM ws a (k + 1) = bytesM ws a k ++ [byteAt ws (a + k)] := by
  unfold bytesM
  rw [List.range_succ, List.map_append]
  rfl
theorem rbytes_c (w : World) (A : Option Addr) (c : Nat) (ws : List (BitVec 64)) (a n : Nat) (hr : Rd u64v w w.heap.size A ws) (ha : a + n ≤ 8 * ws.length) (hl : ws.length ≤ 100000) :
    Calls Try.prog 16 #[.slice A ws.length c, .int .i64 a, .int .i64 n] w (MkP b8 5 (bytesM ws a n) w) := by
  have HB := Lib.hid (fun W (hb : Below w.heap.size w W) k (hk : k < n) => rbyte_c W A c ws (a + k) ((hr.below hb).more hb.size) (by omega) hl)
  obtain ⟨N, hN⟩ : ∃ N, N = ws.length := ⟨_, rfl⟩
  rw [← hN] at HB ⊢
  have q1 : (a : Int) + (n : Int) ≤ 800000 := by omega
  have q2 : (0 : Int) ≤ (a : Int) := by omega
  have q3 : (0 : Int) ≤ (n : Int) := by omega
  have q4 : (n : Int) ≤ 800000 := by omega
  clear hr ha hl hN
  go_enter Try.func16, Try.ntmps16
  go_wp2_with fail
  go_loopw [7, 8] (fun o i wr => ∃ k : Nat, k ≤ n ∧ i = .int .i64 k ∧ Ow b8 5 wr w.heap.size o (bytesM ws a k) ∧ Below w.heap.size w wr) (fun _ i _ => n - (intOf i).toNat)
  case atStart => exact ⟨0, by omega, rfl, Ow.nil_ _ _ _ _, Below.refl _ _⟩
  case round =>
    obtain ⟨k, hk, rfl, ho, hb⟩ := hrel
    by_cases hlt : k < n
    · have p1 : (0 : Int) ≤ (k : Int) := by omega
      have p2 : (k : Int) < (n : Int) := by omega
      obtain ⟨s, hs⟩ : ∃ s, s = a + k := ⟨_, rfl⟩
      have HC := Lib.hid (HB.out wr hb k hlt)
      rw [← hs] at HC
      have d0 : (a : Int) + (k : Int) = (s : Int) := by omega
      have d1 : (s : Int) ≤ 800000 := by omega
      have d2 : (0 : Int) ≤ (s : Int) := by omega
      have hsn := bytesM_snoc ws a k
      rw [← hs] at hsn
      obtain ⟨x, hx⟩ : ∃ x, x = byteAt ws s := ⟨_, rfl⟩
      rw [← hx] at HC hsn
      have HSN := Lib.hid hsn
      obtain ⟨A2, m2, c2, rfl⟩ := ow_sl ho
      have hlen : (bytesM ws a k).length + 1 ≤ 4294967296 := by simp [bytesM]; omega
      have hsz := hb.size
      clear hs hx hsn
      go_wp2_with fail
      refine Calls.mono HC.out ?_
      rintro e w3 ⟨rfl, rfl⟩
      go_wp2_with (at_builtin; refine wp_app one8 b8_one rfl (.tmp 14) (.tmp 20) rfl w.heap.size _ (bytesM ws a k) rfl (ho.alloc _) (some ⟨w3.heap.size, 0, none⟩) 1 1 [x] rfl rfl (w3.heap.size + 1) (rd1_new rfl) hlen (by decide) (by simp; omega) ?_; intro v4 w4 ho4 hb4 _ _)
      go_roundw
      case rel => exact ⟨k + 1, by omega, by go_num, by rw [HSN.out]; exact ho4, (hb.alloc hsz _).trans hb4⟩
      case measure => (first | (simp [intOf]; done) | (simp [intOf]; omega))
    · have hkk : k = n := by omega
      subst hkk
      go_wp2
      go_ret
      exact MkP.of ho hb
theorem of_ansm {P : Program} {f : FuncId} {args : Array Value} {v : Value} {w : World} (h : Ans P f args w v) : Calls P f args w fun e w2 => ∃ u, e = .returned u ∧ Below w.heap.size w w2 ∧ IsV v u w2 :=
  h.mono fun _ _ h => ⟨_, h.1, h.2.below _, rfl⟩
theorem rsb_reg (Q : Exit → Act → World → Prop) (a0 : Act) (w : World) (q N c c2 a k n j b s t : Nat) (ad : Addr) (x : BitVec 8) (y : BitVec 64) (hq : q < w.heap.size) (hy : w.cell? ⟨q, j, none⟩ = some (.int .u64 (U64 y))) (ha : ad.block < w.heap.size) (hx : w.cell? (ad.add k) = some (.int .u8 (U8 x))) (d0 : (a : Int) + (k : Int) = (s : Int)) (d1 : (s : Int) ≤ 800000) (d2 : (0 : Int) ≤ (s : Int)) (d3 : (s : Int).tdiv 8 = (j : Int)) (d4 : (s : Int).tmod 8 = (b : Int)) (d9 : (8 : Int) * (b : Int) = (t : Int)) (p1 : (0 : Int) ≤ (j : Int)) (p2 : (j : Int) < (N : Int)) (p3 : (j : Int) ≤ 1000000) (p4 : (0 : Int) ≤ (t : Int)) (p5 : (t : Int) ≤ 56) (p6 : (0 : Int) ≤ (k : Int)) (p7 : (k : Int) < (n : Int)) (hsz : a0.tmps.size = 43) (sl1 : a0.tmps.getD 1 undef = .int .i64 a) (sl2 : a0.tmps.getD 2 undef = .slice (some ad) n c2) (sl7 : a0.tmps.getD 7 undef = .slice (some ⟨q, 0, none⟩) N c) (sl8 : a0.tmps.getD 8 undef = .int .i64 k)
    (fin : ∀ (vals : Nat → Value) (w1 : World), Below w.heap.size w w1 → (IsV (.int .u64 (U64 (withB y (t : Int) 8 (x.setWidth 64))))) (vals 22) w1 → (IsV (.pointer (some ⟨q, j, none⟩))) (vals 23) w1 → wpList Try.prog #[{ dst := none, op := Go.Op.store 29 (Go.Operand.tmp 41) (Go.Operand.tmp 40), type := 0, pos := "", after := #[], guard := none }] Q [{ dst := none, op := Go.Op.store 29 (Go.Operand.tmp 41) (Go.Operand.tmp 40), type := 0, pos := "", after := #[], guard := none }] (putD vals [18, 19, 20, 21, 22, 23, 24, 25, 26, 27, 28, 29, 30, 31, 32, 33, 34, 35, 36, 37, 38, 39, 40, 41] 0 a0) w1) :
    (Code.region 5 (regIn Try.f13 5) true).wp Try.prog Q a0 w := by
  refine region_by_tail (m := 24) (G := fun w w1 => Below w.heap.size w w1) [IsV (.slice (some ⟨q, 0, none⟩) N c),
    IsV (.int .i64 a),
    IsV (.int .i64 k),
    IsV (.int .i64 s),
    IsV (.int .i64 j),
    IsV (.slice (some ⟨q, 0, none⟩) N c),
    IsV (.int .i64 a),
    IsV (.int .i64 k),
    IsV (.int .i64 s),
    IsV (.int .i64 j),
    IsV (.pointer (some ⟨q, j, none⟩)),
    IsV (.int .u64 (U64 y)),
    IsV (.int .i64 a),
    IsV (.int .i64 k),
    IsV (.int .i64 s),
    IsV (.int .i64 b),
    IsV (.int .i64 t),
    IsV (.slice (some ad) n c2),
    IsV (.int .i64 k),
    IsV (.pointer (some (ad.add k))),
    IsV (.int .u8 (U8 x)),
    IsV (.int .u64 (U64 (x.setWidth 64))),
    IsV (.int .u64 (U64 (withB y (t : Int) 8 (x.setWidth 64)))),
    IsV (.pointer (some ⟨q, j, none⟩))]
    [18, 19, 20, 21, 22, 23, 24, 25, 26, 27, 28, 29, 30, 31, 32, 33, 34, 35, 36, 37, 38, 39, 40, 41] (by kernel_rfl) (Gw.drew _) Gw.trans (by rw [hsz]; kernel_rfl) (by kernel_rfl) ?_ ?_ ?_
  · intro f hf
    simp only [List.mem_cons, List.not_mem_nil, or_false] at hf
    rcases hf with rfl | rfl | rfl | rfl | rfl | rfl | rfl | rfl | rfl | rfl | rfl | rfl | rfl | rfl | rfl | rfl | rfl | rfl | rfl | rfl | rfl | rfl | rfl | rfl <;> intro v a b h g <;> first | exact IsV.mono h
  · refine ⟨?_, ?_, ?_, ?_, ?_, ?_, ?_, ?_, ?_, ?_, ?_, ?_, ?_, ?_, ?_, ?_, ?_, ?_, ?_, ?_, ?_, ?_, ?_, ?_, trivial⟩
    · exact owes_mv 7 (by kernel_rfl) (by kernel_rfl) (by kernel_rfl) sl7 (fun _ => rfl)
    · exact owes_mv 1 (by kernel_rfl) (by kernel_rfl) (by kernel_rfl) sl1 (fun _ => rfl)
    · exact owes_mv 8 (by kernel_rfl) (by kernel_rfl) (by kernel_rfl) sl8 (fun _ => rfl)
    · refine owes_v (Go.Op.binOp Go.BinOp.add 3 (Go.Operand.tmp 19) (Go.Operand.tmp 20) 3) 3 [1, 2] (by kernel_rfl) (by kernel_rfl) (by kernel_rfl) rfl fun vals w1 ρ hG hF hρ hcst hfun => ?_
      have e19 : ρ (.tmp 19) = .int .i64 a := ((hρ 19).trans (slotJ [1, 2] (by rw [hsz]; decide) (by kernel_rfl))).trans (hF 1 (by decide))
      have e20 : ρ (.tmp 20) = .int .i64 k := ((hρ 20).trans (slotJ [1, 2] (by rw [hsz]; decide) (by kernel_rfl))).trans (hF 2 (by decide))
      have kw0 : IntKind.i64.wrap ((s : Int)) = (s : Int) := wrapIn (by omega) (by omega)
      clear hρ hF hcst hfun sl1 sl2 sl7 sl8 fin
      exact opv_val (by go_simp <;> rfl) ⟨gw_self _, rfl⟩
    · refine owes_v (Go.Op.binOp Go.BinOp.quo 3 (Go.Operand.tmp 21) (Go.Operand.const (Go.Value.int Go.IntKind.i64 8)) 3) 3 [3] (by kernel_rfl) (by kernel_rfl) (by kernel_rfl) rfl fun vals w1 ρ hG hF hρ hcst hfun => ?_
      have e21 : ρ (.tmp 21) = .int .i64 s := ((hρ 21).trans (slotJ [3] (by rw [hsz]; decide) (by kernel_rfl))).trans (hF 3 (by decide))
      have kw0 : IntKind.i64.wrap ((j : Int)) = (j : Int) := wrapIn (by omega) (by omega)
      clear hρ hF hfun sl1 sl2 sl7 sl8 fin
      exact opv_val (by go_simp <;> rfl) ⟨gw_self _, rfl⟩
    · exact owes_mv 7 (by kernel_rfl) (by kernel_rfl) (by kernel_rfl) sl7 (fun _ => rfl)
    · exact owes_mv 1 (by kernel_rfl) (by kernel_rfl) (by kernel_rfl) sl1 (fun _ => rfl)
    · exact owes_mv 8 (by kernel_rfl) (by kernel_rfl) (by kernel_rfl) sl8 (fun _ => rfl)
    · refine owes_v (Go.Op.binOp Go.BinOp.add 3 (Go.Operand.tmp 24) (Go.Operand.tmp 25) 3) 3 [6, 7] (by kernel_rfl) (by kernel_rfl) (by kernel_rfl) rfl fun vals w1 ρ hG hF hρ hcst hfun => ?_
      have e24 : ρ (.tmp 24) = .int .i64 a := ((hρ 24).trans (slotJ [6, 7] (by rw [hsz]; decide) (by kernel_rfl))).trans (hF 6 (by decide))
      have e25 : ρ (.tmp 25) = .int .i64 k := ((hρ 25).trans (slotJ [6, 7] (by rw [hsz]; decide) (by kernel_rfl))).trans (hF 7 (by decide))
      have kw0 : IntKind.i64.wrap ((s : Int)) = (s : Int) := wrapIn (by omega) (by omega)
      clear hρ hF hcst hfun sl1 sl2 sl7 sl8 fin
      exact opv_val (by go_simp <;> rfl) ⟨gw_self _, rfl⟩
    · refine owes_v (Go.Op.binOp Go.BinOp.quo 3 (Go.Operand.tmp 26) (Go.Operand.const (Go.Value.int Go.IntKind.i64 8)) 3) 3 [8] (by kernel_rfl) (by kernel_rfl) (by kernel_rfl) rfl fun vals w1 ρ hG hF hρ hcst hfun => ?_
      have e26 : ρ (.tmp 26) = .int .i64 s := ((hρ 26).trans (slotJ [8] (by rw [hsz]; decide) (by kernel_rfl))).trans (hF 8 (by decide))
      have kw0 : IntKind.i64.wrap ((j : Int)) = (j : Int) := wrapIn (by omega) (by omega)
      clear hρ hF hfun sl1 sl2 sl7 sl8 fin
      exact opv_val (by go_simp <;> rfl) ⟨gw_self _, rfl⟩
    · refine owes_v (Go.Op.indexAddr 22 (Go.Operand.tmp 23) (Go.Operand.tmp 27)) 0 [5, 9] (by kernel_rfl) (by kernel_rfl) (by kernel_rfl) rfl fun vals w1 ρ hG hF hρ hcst hfun => ?_
      have e23 : ρ (.tmp 23) = .slice (some ⟨q, 0, none⟩) N c := ((hρ 23).trans (slotJ [5, 9] (by rw [hsz]; decide) (by kernel_rfl))).trans (hF 5 (by decide))
      have e27 : ρ (.tmp 27) = .int .i64 j := ((hρ 27).trans (slotJ [5, 9] (by rw [hsz]; decide) (by kernel_rfl))).trans (hF 9 (by decide))
      clear hρ hF hcst hfun sl1 sl2 sl7 sl8 fin
      exact opv_val (by go_simp <;> rfl) ⟨gw_self _, rfl⟩
    · refine owes_v (Go.Op.load 29 (Go.Operand.tmp 28)) 29 [10] (by kernel_rfl) (by kernel_rfl) (by kernel_rfl) rfl fun vals w1 ρ hG hF hρ hcst hfun => ?_
      have e28 : ρ (.tmp 28) = .pointer (some ⟨q, j, none⟩) := ((hρ 28).trans (slotJ [10] (by rw [hsz]; decide) (by kernel_rfl))).trans (hF 10 (by decide))
      have c0 := (hG.cell (p := ⟨q, j, none⟩) hq).trans hy
      clear hρ hF hcst hfun sl1 sl2 sl7 sl8 fin
      exact opv_val (by go_simp <;> rfl) ⟨gw_self _, rfl⟩
    · exact owes_mv 1 (by kernel_rfl) (by kernel_rfl) (by kernel_rfl) sl1 (fun _ => rfl)
    · exact owes_mv 8 (by kernel_rfl) (by kernel_rfl) (by kernel_rfl) sl8 (fun _ => rfl)
    · refine owes_v (Go.Op.binOp Go.BinOp.add 3 (Go.Operand.tmp 30) (Go.Operand.tmp 31) 3) 3 [12, 13] (by kernel_rfl) (by kernel_rfl) (by kernel_rfl) rfl fun vals w1 ρ hG hF hρ hcst hfun => ?_
      have e30 : ρ (.tmp 30) = .int .i64 a := ((hρ 30).trans (slotJ [12, 13] (by rw [hsz]; decide) (by kernel_rfl))).trans (hF 12 (by decide))
      have e31 : ρ (.tmp 31) = .int .i64 k := ((hρ 31).trans (slotJ [12, 13] (by rw [hsz]; decide) (by kernel_rfl))).trans (hF 13 (by decide))
      have kw0 : IntKind.i64.wrap ((s : Int)) = (s : Int) := wrapIn (by omega) (by omega)
      clear hρ hF hcst hfun sl1 sl2 sl7 sl8 fin
      exact opv_val (by go_simp <;> rfl) ⟨gw_self _, rfl⟩
    · refine owes_v (Go.Op.binOp Go.BinOp.rem 3 (Go.Operand.tmp 32) (Go.Operand.const (Go.Value.int Go.IntKind.i64 8)) 3) 3 [14] (by kernel_rfl) (by kernel_rfl) (by kernel_rfl) rfl fun vals w1 ρ hG hF hρ hcst hfun => ?_
      have e32 : ρ (.tmp 32) = .int .i64 s := ((hρ 32).trans (slotJ [14] (by rw [hsz]; decide) (by kernel_rfl))).trans (hF 14 (by decide))
      clear hρ hF hfun sl1 sl2 sl7 sl8 fin
      exact opv_val (by go_simp <;> rfl) ⟨gw_self _, rfl⟩
    · refine owes_v (Go.Op.binOp Go.BinOp.mul 3 (Go.Operand.const (Go.Value.int Go.IntKind.i64 8)) (Go.Operand.tmp 33) 3) 3 [15] (by kernel_rfl) (by kernel_rfl) (by kernel_rfl) rfl fun vals w1 ρ hG hF hρ hcst hfun => ?_
      have e33 : ρ (.tmp 33) = .int .i64 b := ((hρ 33).trans (slotJ [15] (by rw [hsz]; decide) (by kernel_rfl))).trans (hF 15 (by decide))
      have kw0 : IntKind.i64.wrap ((t : Int)) = (t : Int) := wrapIn (by omega) (by omega)
      clear hρ hF hfun sl1 sl2 sl7 sl8 fin
      exact opv_val (by go_simp <;> rfl) ⟨gw_self _, rfl⟩
    · exact owes_mv 2 (by kernel_rfl) (by kernel_rfl) (by kernel_rfl) sl2 (fun _ => rfl)
    · exact owes_mv 8 (by kernel_rfl) (by kernel_rfl) (by kernel_rfl) sl8 (fun _ => rfl)
    · refine owes_v (Go.Op.indexAddr 30 (Go.Operand.tmp 35) (Go.Operand.tmp 36)) 0 [17, 18] (by kernel_rfl) (by kernel_rfl) (by kernel_rfl) rfl fun vals w1 ρ hG hF hρ hcst hfun => ?_
      have e35 : ρ (.tmp 35) = .slice (some ad) n c2 := ((hρ 35).trans (slotJ [17, 18] (by rw [hsz]; decide) (by kernel_rfl))).trans (hF 17 (by decide))
      have e36 : ρ (.tmp 36) = .int .i64 k := ((hρ 36).trans (slotJ [17, 18] (by rw [hsz]; decide) (by kernel_rfl))).trans (hF 18 (by decide))
      clear hρ hF hcst hfun sl1 sl2 sl7 sl8 fin
      exact opv_val (by go_simp <;> rfl) ⟨gw_self _, rfl⟩
    · refine owes_v (Go.Op.load 5 (Go.Operand.tmp 37)) 5 [19] (by kernel_rfl) (by kernel_rfl) (by kernel_rfl) rfl fun vals w1 ρ hG hF hρ hcst hfun => ?_
      have e37 : ρ (.tmp 37) = .pointer (some (ad.add k)) := ((hρ 37).trans (slotJ [19] (by rw [hsz]; decide) (by kernel_rfl))).trans (hF 19 (by decide))
      have c0 := (hG.cell (p := ad.add k) (by rw [add_block]; exact ha)).trans hx
      clear hρ hF hcst hfun sl1 sl2 sl7 sl8 fin
      exact opv_val (by go_simp <;> rfl) ⟨gw_self _, rfl⟩
    · refine owes_v (Go.Op.convert 5 29 (Go.Operand.tmp 38)) 29 [20] (by kernel_rfl) (by kernel_rfl) (by kernel_rfl) rfl fun vals w1 ρ hG hF hρ hcst hfun => ?_
      have e38 : ρ (.tmp 38) = .int .u8 (U8 x) := ((hρ 38).trans (slotJ [20] (by rw [hsz]; decide) (by kernel_rfl))).trans (hF 20 (by decide))
      clear hρ hF hcst hfun sl1 sl2 sl7 sl8 fin
      exact opv_val (by go_simp <;> rfl) ⟨gw_self _, rfl⟩
    · refine owes_v (Go.Op.call { callee := Go.Callee.value (Go.Operand.func 27), args := #[Go.Operand.tmp 29, Go.Operand.tmp 34, Go.Operand.const (Go.Value.int Go.IntKind.i64 8), Go.Operand.tmp 39], argTypes := #[29, 3, 3, 29] }) 29 [11, 16, 21] (by kernel_rfl) (by kernel_rfl) (by kernel_rfl) rfl fun vals w1 ρ hG hF hρ hcst hfun => ?_
      have e29 : ρ (.tmp 29) = .int .u64 (U64 y) := ((hρ 29).trans (slotJ [11, 16, 21] (by rw [hsz]; decide) (by kernel_rfl))).trans (hF 11 (by decide))
      have e34 : ρ (.tmp 34) = .int .i64 t := ((hρ 34).trans (slotJ [11, 16, 21] (by rw [hsz]; decide) (by kernel_rfl))).trans (hF 16 (by decide))
      have e39 : ρ (.tmp 39) = .int .u64 (U64 (x.setWidth 64)) := ((hρ 39).trans (slotJ [11, 16, 21] (by rw [hsz]; decide) (by kernel_rfl))).trans (hF 21 (by decide))
      clear hρ hF sl1 sl2 sl7 sl8 fin
      exact opv_enter (by go_simp <;> rfl) (of_ansm (rwith_c y (t : Int) 8 (x.setWidth 64) (by decide) (by decide) w1))
    · refine owes_v (Go.Op.indexAddr 22 (Go.Operand.tmp 18) (Go.Operand.tmp 22)) 0 [0, 4] (by kernel_rfl) (by kernel_rfl) (by kernel_rfl) rfl fun vals w1 ρ hG hF hρ hcst hfun => ?_
      have e18 : ρ (.tmp 18) = .slice (some ⟨q, 0, none⟩) N c := ((hρ 18).trans (slotJ [0, 4] (by rw [hsz]; decide) (by kernel_rfl))).trans (hF 0 (by decide))
      have e22 : ρ (.tmp 22) = .int .i64 j := ((hρ 22).trans (slotJ [0, 4] (by rw [hsz]; decide) (by kernel_rfl))).trans (hF 4 (by decide))
      clear hρ hF hcst hfun sl1 sl2 sl7 sl8 fin
      exact opv_val (by go_simp <;> rfl) ⟨gw_self _, rfl⟩
  · intro vals w1 hG hF
    exact last_list (by kernel_rfl) (by kernel_rfl) (by kernel_rfl) (fin vals w1 hG (hF 22 (by decide +kernel)) (hF 23 (by decide +kernel)))
theorem rsetb_c (w : World) (A A2 : Option Addr) (c c2 : Nat) (ws : List (BitVec 64)) (bs : List (BitVec 8)) (a : Nat) (hr : Rd u64v w w.heap.size A ws) (hr2 : Rd b8 w w.heap.size A2 bs) (ha : a + bs.length ≤ 8 * ws.length) (hl : ws.length ≤ 100000) :
    Calls Try.prog 13 #[.slice A ws.length c, .int .i64 a, .slice A2 bs.length c2] w (MkP u64v 29 (putK ws a bs bs.length) w) := by
  have HR := Lib.hid hr
  have HR2 := Lib.hid hr2
  have HA := Lib.hid ha
  have HL := Lib.hid hl
  obtain ⟨N, hN⟩ : ∃ N, N = ws.length := ⟨_, rfl⟩
  obtain ⟨n, hn⟩ : ∃ n, n = bs.length := ⟨_, rfl⟩
  rw [← hN, ← hn]
  have HN := Lib.hid hN
  have Hn := Lib.hid hn
  have q1 : (n : Int) ≤ 800000 := by omega
  clear hr hr2 ha hl hN hn
  go_enter Try.func13, Try.ntmps13
  go_wp2_with (at_builtin; refine wp_app one64 u64v_one rfl (.tmp 9) (.tmp 10) rfl w.heap.size _ [] rfl (ow_empty u64v 29 w w.heap.size (Nat.le_refl _)) A N c ws rfl HN.out w.heap.size (HR.out.alloc (Nat.le_refl _) _) (by have := HL.out; simp; omega) (by decide) (by simp) ?_; intro v4 w4 ho4 hb4 hg4 hv4)
  rw [List.nil_append] at ho4
  obtain ⟨A4, c4, rfl, hc4⟩ := ho4.form
  have hB4 : Below w.heap.size w w4 := (Gw.alloc w _).trans hb4
  have HO4 := Lib.hid ho4
  have HB4 := Lib.hid hB4
  rw [← HN.out] at HO4 ⊢
  clear ho4 hb4 hg4 hv4 hc4 hB4
  go_wp2_with fail
  go_loopw [8] (fun i wr => ∃ k : Nat, k ≤ n ∧ i = .int .i64 k ∧ Ow u64v 29 wr w.heap.size (.slice A4 N c4) (putK ws a bs k) ∧ Below w.heap.size w wr) (fun i _ => n - (intOf i).toNat)
  case atStart => exact ⟨0, by omega, rfl, HO4.out, HB4.out⟩
  case round =>
    obtain ⟨k, hk, rfl, ho, hB⟩ := hrel
    by_cases hlt : k < n
    · have hn0 := Hn.out
      have hN0 := HN.out
      have ha0 := HA.out
      have hl0 := HL.out
      obtain ⟨q, rfl⟩ : ∃ q, A4 = some ⟨q, 0, none⟩ := by
        rcases ho.2 with ⟨e, hn⟩ | ⟨q, _, _, e, _⟩
        · have hn' : (putK ws a bs k).length = 0 := hn
          rw [putK_len] at hn'
          omega
        · injection e with e
          exact ⟨q, e⟩
      obtain ⟨ad, rfl, hadb, hcl⟩ := (HR2.out.below hB) k (by omega)
      obtain ⟨x, hx⟩ : ∃ x, x = bs[k]'(by omega) := ⟨_, rfl⟩
      rw [← hx] at hcl
      unfold b8 at hcl
      obtain ⟨s, hs⟩ : ∃ s, s = a + k := ⟨_, rfl⟩
      obtain ⟨j, hj⟩ : ∃ j, j = s / 8 := ⟨_, rfl⟩
      obtain ⟨b, hb⟩ : ∃ b, b = s % 8 := ⟨_, rfl⟩
      obtain ⟨t, ht⟩ : ∃ t, t = 8 * b := ⟨_, rfl⟩
      have hjl : j < ws.length := by omega
      have hjp : j < (putK ws a bs k).length := by rw [putK_len]; exact hjl
      have hcell := ho.cell hjp
      obtain ⟨y, hy⟩ : ∃ y, y = (putK ws a bs k)[j] := ⟨_, rfl⟩
      rw [← hy] at hcell
      unfold u64v at hcell
      have hput : putK ws a bs (k + 1) = (putK ws a bs k).set j (withB y (t : Int) 8 (x.setWidth 64)) := by
        rw [with_set y x t (by omega)]
        show setB (putK ws a bs k) (a + k) (bs.getD k 0#8) = _
        unfold setB
        rw [← hs, ← hj, ← hb, ← ht, hy, hx, List.getD_eq_getElem?_getD, List.getElem?_eq_getElem hjp, List.getD_eq_getElem?_getD, List.getElem?_eq_getElem (by omega)]
        rfl
      have HS := Lib.hid (fun (W : World) (hW : Below wr.heap.size wr W) => show Ow u64v 29 (W.setCell ⟨q, j, none⟩ (.int .u64 (U64 (withB y (t : Int) 8 (x.setWidth 64))))) w.heap.size (.slice (some ⟨q, 0, none⟩) N c4) (putK ws a bs (k + 1)) ∧ Below w.heap.size w (W.setCell ⟨q, j, none⟩ (.int .u64 (U64 (withB y (t : Int) 8 (x.setWidth 64))))) from by
        rw [hput]
        exact ⟨(ho.below hW).set hjp _, (hB.trans (hW.mono hB.size)).setCell (p := ⟨q, j, none⟩) ho.ge.1 _⟩)
      have HFZ := Lib.hid (fun (W : World) (hW : Below wr.heap.size wr W) => (ho.below hW).free j)
      have HCL := Lib.hid (fun (W : World) (hW : Below wr.heap.size wr W) => show W.cell? ⟨q, j, none⟩ = some (.int .u64 (U64 y)) from by have h0 := (ho.below hW).cell hjp; rw [← hy] at h0; exact h0)
      have HX := Lib.hid (show ((a : Int) + (k : Int) = (s : Int) ∧ (s : Int) ≤ 800000 ∧ (0 : Int) ≤ (s : Int)) ∧ ((s : Int).tdiv 8 = (j : Int) ∧ (s : Int).tmod 8 = (b : Int) ∧ (8 : Int) * (b : Int) = (t : Int)) ∧ ((0 : Int) ≤ (j : Int) ∧ (j : Int) < (N : Int) ∧ (j : Int) ≤ 1000000) ∧ ((0 : Int) ≤ (t : Int) ∧ (t : Int) ≤ 56 ∧ (0 : Int) ≤ (k : Int) ∧ (k : Int) < (n : Int)) from by
        refine ⟨⟨by omega, by omega, by omega⟩, ⟨?_, ?_, by omega⟩, ⟨by omega, by omega, by omega⟩, by omega, by omega, by omega, by omega⟩
        · rw [Int.tdiv_eq_ediv_of_nonneg (by omega)]; omega
        · rw [Int.tmod_eq_emod_of_nonneg (by omega)]; omega)
      have HC := Lib.hid (And.intro ho.ge.2 (And.intro hcell (And.intro (show ad.block < wr.heap.size by have := hB.size; omega) hcl)))
      clear hx hs hj hb ht hjl hjp hcell hy hput ho hadb hcl hn0 hN0 ha0 hl0
      go_wp2_with fail
      obtain ⟨⟨x1, x2, x3⟩, ⟨x4, x5, x6⟩, ⟨x7, x8, x9⟩, x10, x11, x12, x13⟩ := HX.out
      refine rsb_reg _ _ _ q N c4 c2 a k n j b s t ad x y HC.out.1 HC.out.2.1 HC.out.2.2.1 HC.out.2.2.2 x1 x2 x3 x4 x5 x6 x7 x8 x9 x10 x11 x12 x13 rfl rfl rfl rfl rfl ?_
      intro vals w5 hG h40 h41
      unfold IsV at h40 h41
      simp only [putD, Act.put, List.setIfInBounds_toArray, List.set_cons_zero, List.set_cons_succ, h40, h41]
      have hS := HS.out w5 hG
      have hf := HFZ.out w5 hG
      have hc := HCL.out w5 hG
      have HS3 := Lib.hid hS
      clear hS h40 h41 HC HX HS HFZ HCL x1 x2 x3 x4 x5 x6 x7 x8 x9 x10 x11 x12 x13
      go_wp2_with fail
      go_roundw
      case rel => exact ⟨k + 1, by omega, by go_num, HS3.out.1, HS3.out.2⟩
      case measure => (first | (simp [intOf]; done) | (simp [intOf]; omega))
    · have hkk : k = n := by omega
      have hlen : N = (putK ws a bs k).length := by rw [putK_len]; exact HN.out
      have HF := Lib.hid (And.intro ho (And.intro hB (And.intro hkk hlen)))
      clear ho hB hkk hlen
      go_wp2_with fail
      go_ret
      obtain ⟨ho, hB, hkk, hlen⟩ := HF.out
      subst hkk
      exact MkP.of ho hB
end Go.Proofs.Ytobcpcobgdmleaa
