/- Texts joined: TxF RoT OtB RoU ObM RegL RegG RegH. -/
import Derived.Test.YtfodefgihicafaaDoorOd5
import Derived.Test.YtfodefgihicafaaDoorRegV
import Derived.Test.YtfodefgihicafaaDoorRegT
import Derived.Test.YtfodefgihicafaaDoorAnyR
import Derived.Laws.Rows
import Derived.Laws.Tables
/- The reference's Hex. Conditions: lengths. -/
namespace Go.Proofs.YtfodefgihicafaaDoor
set_option linter.unusedVariables false
set_option linter.unusedSimpArgs false
open Go.RowKit
theorem adr_at8 (q k : Nat) : ((⟨q, 0, none⟩ : Addr).add k) = ⟨q, k, none⟩ := by unfold Addr.add; split <;> simp_all
def hxS : ByteArray := ⟨#[48, 49, 50, 51, 52, 53, 54, 55, 56, 57, 97, 98, 99, 100, 101, 102]⟩
theorem hxS_at (i : Nat) (h : i < 16) (h2 : i < hxS.size) : (hxS[i]'h2).toNat = (hexU i).toNat := by
  have key : ∀ k : Fin 16, hxS.data[k.1]! = UInt8.ofBitVec (hexU k.1) := by decide +kernel
  have k1 := key ⟨i, h⟩
  have h3 : i < hxS.data.size := h2
  rw [getElem!_pos hxS.data i h3] at k1
  have k2 : hxS[i]'h2 = UInt8.ofBitVec (hexU i) := k1
  rw [k2]; rfl
theorem hx_ix (p pu : Nat) (h : p < 16) (e : pu = (hexU p).toNat) (h2 : p < hxS.size) : (((hxS[p]'h2).toNat : Nat) : Int) = (pu : Int) := by rw [hxS_at p h h2, e]
def ByV (bs : List (BitVec 8)) (v : Value) (W : World) : Prop := ∃ A c, v = .slice A bs.length c ∧ Rd b8 W W.heap.size A bs
theorem ByV.mono {bs : List (BitVec 8)} {v : Value} {a b : World} (h : ByV bs v a) (hb : Below a.heap.size a b) : ByV bs v b := by
  obtain ⟨A, c, e, h1⟩ := h
  exact ⟨A, c, e, (h1.below hb).more hb.size⟩
theorem rd2_new (w : World) (x y : BitVec 8) (p q : Nat) (hp : p = x.toNat) (hq : q = y.toNat) : Rd b8 (w.alloc (.cells #[.int .u8 p, .int .u8 q] 5)) (w.alloc (.cells #[.int .u8 p, .int .u8 q] 5)).heap.size (some ⟨w.heap.size, 0, none⟩) [x, y] := by
  have hb := Bk.new w 5 #[.int .u8 p, .int .u8 q]
  intro j hj
  have hl := hb.lt
  refine ⟨⟨w.heap.size, 0, none⟩, rfl, hl, ?_⟩
  have h2 : j = 0 ∨ j = 1 := by have h : j < 2 := hj; omega
  rcases h2 with rfl | rfl
  · rw [adr_at8]
    refine (hb.cell 0).trans ?_
    subst hp
    rfl
  · rw [adr_at8]
    refine (hb.cell 1).trans ?_
    subst hq
    rfl
theorem hex_and : ∀ x : Fin 256, bits .and .u8 (x.1 : Int) 15 = ((x.1 % 16 : Nat) : Int) := by decide +kernel
set_option maxHeartbeats 2000000
set_option maxRecDepth 100000
theorem hx6_r (Q : Exit → Act → World → Prop) (a0 : Act) (w : World) (ad : Addr) (N c k p q pu qu : Nat) (x a b : BitVec 8) (S T : List (BitVec 8)) (sl : Nat) (hb : Hid (∀ W, Below w.heap.size w W → W.cell? (ad.add k) = some (.int .u8 (U8 x)))) (h1 : (k : Int) < (N : Int)) (h2 : (0 : Int) ≤ (k : Int)) (hp : (U8 x) / 16 = (p : Int)) (hq : bits .and .u8 (U8 x) 15 = (q : Int)) (hp16 : (p : Int) < 16) (hq16 : (q : Int) < 16) (ha : pu = (hexU p).toNat) (hb2 : qu = (hexU q).toNat) (hap : pu = a.toNat) (hbq : qu = b.toNat) (hT : strB S ++ strB [a, b] = strB T) (hsl : (strB S).size = sl) (hsl2 : (sl : Int) ≤ 100000) (hsz : a0.tmps.size = 31) (sl0 : a0.tmps.getD 0 undef = .slice (some ad) N c) (sl3 : a0.tmps.getD 3 undef = .string ⟨#[48, 49, 50, 51, 52, 53, 54, 55, 56, 57, 97, 98, 99, 100, 101, 102]⟩) (sl4 : a0.tmps.getD 4 undef = .string (strB S)) (sl5 : a0.tmps.getD 5 undef = .int .i64 k)
    (fin : ∀ (vals : Nat → Value) (w1 : World), Below w.heap.size w w1 → (IsV (.string (strB T))) (vals 18) w1 → Q .normal (putD vals [12, 13, 14, 15, 16, 17, 18, 19, 20, 21, 22, 23, 24, 25, 26, 27, 28, 29, 4] 0 a0) w1) :
    (Code.region 6 (regIn Tryd.f57 6) true).wp Tryd.prog Q a0 w := by
  refine region_by (G := fun w w1 => Below w.heap.size w w1) [IsV (.string (strB S)),
    IsV (.string ⟨#[48, 49, 50, 51, 52, 53, 54, 55, 56, 57, 97, 98, 99, 100, 101, 102]⟩),
    IsV (.slice (some ad) N c),
    IsV (.int .i64 k),
    IsV (.pointer (some (ad.add k))),
    IsV (.int .u8 (U8 x)),
    IsV (.int .u8 p),
    IsV (.int .u8 pu),
    IsV (.string ⟨#[48, 49, 50, 51, 52, 53, 54, 55, 56, 57, 97, 98, 99, 100, 101, 102]⟩),
    IsV (.slice (some ad) N c),
    IsV (.int .i64 k),
    IsV (.pointer (some (ad.add k))),
    IsV (.int .u8 (U8 x)),
    IsV (.int .u8 q),
    IsV (.int .u8 qu),
    ByV [a, b],
    IsV (.string (strB [a, b])),
    IsV (.string (strB T)),
    IsV (.string (strB T))]
    [12, 13, 14, 15, 16, 17, 18, 19, 20, 21, 22, 23, 24, 25, 26, 27, 28, 29, 4] (by kernel_rfl) (Gw.drew _) Gw.trans (by rw [hsz]; kernel_rfl) (by kernel_rfl) ?_ ?_ ?_
  · intro f hf
    simp only [List.mem_cons, List.not_mem_nil, or_false] at hf
    rcases hf with rfl | rfl | rfl | rfl | rfl | rfl | rfl | rfl | rfl | rfl | rfl | rfl | rfl | rfl | rfl | rfl | rfl | rfl | rfl <;> intro v a b h g <;> first | exact IsV.mono h | exact ByV.mono h g
  · refine ⟨?_, ?_, ?_, ?_, ?_, ?_, ?_, ?_, ?_, ?_, ?_, ?_, ?_, ?_, ?_, ?_, ?_, ?_, ?_, trivial⟩
    · exact owes_mv 4 (by kernel_rfl) (by kernel_rfl) (by kernel_rfl) sl4 (fun _ => rfl)
    · exact owes_mv 3 (by kernel_rfl) (by kernel_rfl) (by kernel_rfl) sl3 (fun _ => rfl)
    · exact owes_mv 0 (by kernel_rfl) (by kernel_rfl) (by kernel_rfl) sl0 (fun _ => rfl)
    · exact owes_mv 5 (by kernel_rfl) (by kernel_rfl) (by kernel_rfl) sl5 (fun _ => rfl)
    · refine owes_v (Go.Op.indexAddr 30 (Go.Operand.tmp 14) (Go.Operand.tmp 15)) 0 [2, 3] (by kernel_rfl) (by kernel_rfl) (by kernel_rfl) rfl fun vals w1 ρ hG hF hρ hcst hfun => ?_
      have e14 : ρ (.tmp 14) = .slice (some ad) N c := ((hρ 14).trans (slotJ [2, 3] (by rw [hsz]; decide) (by kernel_rfl))).trans (hF 2 (by decide))
      have e15 : ρ (.tmp 15) = .int .i64 k := ((hρ 15).trans (slotJ [2, 3] (by rw [hsz]; decide) (by kernel_rfl))).trans (hF 3 (by decide))
      have g1 := h1; have g2 := h2
      clear hρ hF hcst hfun sl0 sl3 sl4 sl5 fin
      exact opv_val (by go_simp <;> rfl) ⟨gw_self _, rfl⟩
    · refine owes_v (Go.Op.load 5 (Go.Operand.tmp 16)) 5 [4] (by kernel_rfl) (by kernel_rfl) (by kernel_rfl) rfl fun vals w1 ρ hG hF hρ hcst hfun => ?_
      have e16 : ρ (.tmp 16) = .pointer (some (ad.add k)) := ((hρ 16).trans (slotJ [4] (by rw [hsz]; decide) (by kernel_rfl))).trans (hF 4 (by decide))
      have d0 := hb.out w1 hG
      clear hρ hF hcst hfun sl0 sl3 sl4 sl5 fin
      exact opv_val (by go_simp <;> rfl) ⟨gw_self _, rfl⟩
    · refine owes_v (Go.Op.binOp Go.BinOp.shr 5 (Go.Operand.tmp 17) (Go.Operand.const (Go.Value.int Go.IntKind.u64 4)) 128) 5 [5] (by kernel_rfl) (by kernel_rfl) (by kernel_rfl) rfl fun vals w1 ρ hG hF hρ hcst hfun => ?_
      have e17 : ρ (.tmp 17) = .int .u8 (U8 x) := ((hρ 17).trans (slotJ [5] (by rw [hsz]; decide) (by kernel_rfl))).trans (hF 5 (by decide))
      have g1 := hp
      clear hρ hF hfun sl0 sl3 sl4 sl5 fin
      exact opv_val (by go_simp <;> rfl) ⟨gw_self _, rfl⟩
    · refine owes_v (Go.Op.index 9 (Go.Operand.tmp 13) (Go.Operand.tmp 18)) 5 [1, 6] (by kernel_rfl) (by kernel_rfl) (by kernel_rfl) rfl fun vals w1 ρ hG hF hρ hcst hfun => ?_
      have e13 : ρ (.tmp 13) = .string ⟨#[48, 49, 50, 51, 52, 53, 54, 55, 56, 57, 97, 98, 99, 100, 101, 102]⟩ := ((hρ 13).trans (slotJ [1, 6] (by rw [hsz]; decide) (by kernel_rfl))).trans (hF 1 (by decide))
      have e18 : ρ (.tmp 18) = .int .u8 p := ((hρ 18).trans (slotJ [1, 6] (by rw [hsz]; decide) (by kernel_rfl))).trans (hF 6 (by decide))
      have g1 := hp16
      clear hρ hF hcst hfun sl0 sl3 sl4 sl5 fin
      exact opv_val (by go_simp <;> first | rfl | exact hx_ix _ _ (by omega) rfl _ | exact hx_ix _ _ (by omega) ha _) ⟨gw_self _, rfl⟩
    · exact owes_mv 3 (by kernel_rfl) (by kernel_rfl) (by kernel_rfl) sl3 (fun _ => rfl)
    · exact owes_mv 0 (by kernel_rfl) (by kernel_rfl) (by kernel_rfl) sl0 (fun _ => rfl)
    · exact owes_mv 5 (by kernel_rfl) (by kernel_rfl) (by kernel_rfl) sl5 (fun _ => rfl)
    · refine owes_v (Go.Op.indexAddr 30 (Go.Operand.tmp 21) (Go.Operand.tmp 22)) 0 [9, 10] (by kernel_rfl) (by kernel_rfl) (by kernel_rfl) rfl fun vals w1 ρ hG hF hρ hcst hfun => ?_
      have e21 : ρ (.tmp 21) = .slice (some ad) N c := ((hρ 21).trans (slotJ [9, 10] (by rw [hsz]; decide) (by kernel_rfl))).trans (hF 9 (by decide))
      have e22 : ρ (.tmp 22) = .int .i64 k := ((hρ 22).trans (slotJ [9, 10] (by rw [hsz]; decide) (by kernel_rfl))).trans (hF 10 (by decide))
      have g1 := h1; have g2 := h2
      clear hρ hF hcst hfun sl0 sl3 sl4 sl5 fin
      exact opv_val (by go_simp <;> rfl) ⟨gw_self _, rfl⟩
    · refine owes_v (Go.Op.load 5 (Go.Operand.tmp 23)) 5 [11] (by kernel_rfl) (by kernel_rfl) (by kernel_rfl) rfl fun vals w1 ρ hG hF hρ hcst hfun => ?_
      have e23 : ρ (.tmp 23) = .pointer (some (ad.add k)) := ((hρ 23).trans (slotJ [11] (by rw [hsz]; decide) (by kernel_rfl))).trans (hF 11 (by decide))
      have d0 := hb.out w1 hG
      clear hρ hF hcst hfun sl0 sl3 sl4 sl5 fin
      exact opv_val (by go_simp <;> rfl) ⟨gw_self _, rfl⟩
    · refine owes_v (Go.Op.binOp Go.BinOp.and 5 (Go.Operand.tmp 24) (Go.Operand.const (Go.Value.int Go.IntKind.u8 15)) 5) 5 [12] (by kernel_rfl) (by kernel_rfl) (by kernel_rfl) rfl fun vals w1 ρ hG hF hρ hcst hfun => ?_
      have e24 : ρ (.tmp 24) = .int .u8 (U8 x) := ((hρ 24).trans (slotJ [12] (by rw [hsz]; decide) (by kernel_rfl))).trans (hF 12 (by decide))
      have g1 := hq
      clear hρ hF hfun sl0 sl3 sl4 sl5 fin
      exact opv_val (by go_simp <;> rfl) ⟨gw_self _, rfl⟩
    · refine owes_v (Go.Op.index 9 (Go.Operand.tmp 20) (Go.Operand.tmp 25)) 5 [8, 13] (by kernel_rfl) (by kernel_rfl) (by kernel_rfl) rfl fun vals w1 ρ hG hF hρ hcst hfun => ?_
      have e20 : ρ (.tmp 20) = .string ⟨#[48, 49, 50, 51, 52, 53, 54, 55, 56, 57, 97, 98, 99, 100, 101, 102]⟩ := ((hρ 20).trans (slotJ [8, 13] (by rw [hsz]; decide) (by kernel_rfl))).trans (hF 8 (by decide))
      have e25 : ρ (.tmp 25) = .int .u8 q := ((hρ 25).trans (slotJ [8, 13] (by rw [hsz]; decide) (by kernel_rfl))).trans (hF 13 (by decide))
      have g1 := hq16
      clear hρ hF hcst hfun sl0 sl3 sl4 sl5 fin
      exact opv_val (by go_simp <;> first | rfl | exact hx_ix _ _ (by omega) rfl _ | exact hx_ix _ _ (by omega) hb2 _) ⟨gw_self _, rfl⟩
    · refine owes_v (Go.Op.buildSlice 30 2 #[(0, Go.Operand.tmp 19), (1, Go.Operand.tmp 26)]) 30 [7, 14] (by kernel_rfl) (by kernel_rfl) (by kernel_rfl) rfl fun vals w1 ρ hG hF hρ hcst hfun => ?_
      have e19 : ρ (.tmp 19) = .int .u8 pu := ((hρ 19).trans (slotJ [7, 14] (by rw [hsz]; decide) (by kernel_rfl))).trans (hF 7 (by decide))
      have e26 : ρ (.tmp 26) = .int .u8 qu := ((hρ 26).trans (slotJ [7, 14] (by rw [hsz]; decide) (by kernel_rfl))).trans (hF 14 (by decide))
      clear hρ hF hcst hfun sl0 sl3 sl4 sl5 fin
      exact opv_val (by go_simp <;> rfl) ⟨Gw.alloc _ _, ⟨_, _, rfl, rd2_new w1 a b pu qu hap hbq⟩⟩
    · refine owes_v (Go.Op.convert 30 9 (Go.Operand.tmp 27)) 9 [15] (by kernel_rfl) (by kernel_rfl) (by kernel_rfl) rfl fun vals w1 ρ hG hF hρ hcst hfun => ?_
      have f27 : (ByV [a, b]) (vals 15) w1 := hF 15 (by decide)
      have e27 : ρ (.tmp 27) = vals 15 := (hρ 27).trans (slotJ [15] (by rw [hsz]; decide) (by kernel_rfl))
      obtain ⟨A27, c27, h27, r27⟩ := f27
      rw [h27] at e27
      have hcv : (convert 30 9 (.slice A27 2 c27)).run Tryd.prog w1 = .ok (.string (strB [a, b])) w1 := str_conv [a, b] A27 c27 _ w1 r27
      clear hρ hF hcst hfun sl0 sl3 sl4 sl5 fin
      exact opv_val (by go_simp <;> rfl) ⟨gw_self _, rfl⟩
    · refine owes_v (Go.Op.binOp Go.BinOp.add 9 (Go.Operand.tmp 12) (Go.Operand.tmp 28) 9) 9 [0, 16] (by kernel_rfl) (by kernel_rfl) (by kernel_rfl) rfl fun vals w1 ρ hG hF hρ hcst hfun => ?_
      have e12 : ρ (.tmp 12) = .string (strB S) := ((hρ 12).trans (slotJ [0, 16] (by rw [hsz]; decide) (by kernel_rfl))).trans (hF 0 (by decide))
      have e28 : ρ (.tmp 28) = .string (strB [a, b]) := ((hρ 28).trans (slotJ [0, 16] (by rw [hsz]; decide) (by kernel_rfl))).trans (hF 16 (by decide))
      have k1 := hT; have k2 := hsl; have k3 := hsl2; have k4 : (strB [a, b]).size = 2 := rfl
      clear hρ hF hcst hfun sl0 sl3 sl4 sl5 fin
      exact opv_val (by go_simp <;> first | rfl | omega) ⟨gw_self _, rfl⟩
    · exact owes_mvj 17 29 (by kernel_rfl) (by kernel_rfl) (by kernel_rfl) (by kernel_rfl) (by rw [hsz]; decide) (fun v w h => h)
  · intro vals w1 hG hF
    exact fin vals w1 hG (hF 18 (by decide +kernel))
theorem hex_c (w : World) (A : Option Addr) (c : Nat) (bs : List (BitVec 8)) (hr : Rd b8 w w.heap.size A bs) (hl : bs.length ≤ 2000) : Calls Tryd.prog 57 #[.slice A bs.length c] w (RetP (.string (strB (hexB bs))) w) := by
  have HR := Lib.hid hr
  obtain ⟨N, hN⟩ : ∃ N, N = bs.length := ⟨_, rfl⟩
  have HN := Lib.hid hN
  have q0 : (N : Int) ≤ 2000 := by omega
  rw [← hN]
  clear hr hl hN
  go_enter Tryd.func57, Tryd.ntmps57
  go_wp2_with fail
  go_loopw [4, 5] (fun o i W => ∃ k : Nat, i = .int .i64 k ∧ k ≤ N ∧ o = .string (strB (hexB (bs.take k))) ∧ Hid (Below w.heap.size w W)) (fun _ i _ => N - (Go.RowKit.intOf i).toNat)
  case atStart => exact ⟨0, rfl, Nat.zero_le _, rfl, Lib.hid (Below.refl _ _)⟩
  case round =>
    obtain ⟨k, rfl, hk, rfl, hB⟩ := hrel
    by_cases hlt : k < N
    · have hkl : k < bs.length := by rw [← HN.out]; exact hlt
      obtain ⟨x, hx⟩ : ∃ x, x = bs[k] := ⟨_, rfl⟩
      obtain ⟨ad, rfl, hcell⟩ : ∃ ad, A = some ad ∧ wr.cell? (ad.add k) = some (.int .u8 (U8 x)) := by
        obtain ⟨ad, e, _, hc⟩ := (HR.out.below hB.out) k hkl
        exact ⟨ad, e, by rw [hx]; exact hc⟩
      have hnx : hexB (bs.take (k + 1)) = hexB (bs.take k) ++ [hexU (x.toNat / 16), hexU (x.toNat % 16)] := by
        rw [List.take_succ_eq_append_getElem hkl, hexB_snoc, ← hx]
      have hsl : (strB (hexB (bs.take k))).size = 2 * k := by
        rw [strB_len, hexB_len, List.length_take]; omega
      obtain ⟨S, hS⟩ : ∃ S, S = hexB (bs.take k) := ⟨_, rfl⟩
      obtain ⟨T, hT⟩ : ∃ T, T = hexB (bs.take (k + 1)) := ⟨_, rfl⟩
      rw [← hS, ← hT] at hnx
      rw [← hS] at hsl ⊢
      have HT := Lib.hid hT
      have hTT : strB S ++ strB [hexU (x.toNat / 16), hexU (x.toNat % 16)] = strB T := by rw [hnx, strB_app]
      have hlt8 : x.toNat < 256 := x.isLt
      have hp : (U8 x) / 16 = ((x.toNat / 16 : Nat) : Int) := by
        have e : U8 x = (x.toNat : Int) := rfl
        rw [e]; omega
      have hq : bits .and .u8 (U8 x) 15 = ((x.toNat % 16 : Nat) : Int) := hex_and ⟨x.toNat, hlt8⟩
      have hb' : Hid (∀ W, Below wr.heap.size wr W → W.cell? (ad.add k) = some (.int .u8 (U8 x))) := Lib.hid fun W b => (b.cell (cell_lt hcell)).trans hcell
      have p1 : (0 : Int) ≤ (k : Int) := by omega
      have p2 : (k : Int) < (N : Int) := by omega
      clear hnx hcell hx hS hT hkl
      go_wp2_with fail
      refine hx6_r _ _ _ ad N c k (x.toNat / 16) (x.toNat % 16) (hexU (x.toNat / 16)).toNat (hexU (x.toNat % 16)).toNat x (hexU (x.toNat / 16)) (hexU (x.toNat % 16)) S T (2 * k) hb' p2 p1 hp hq (by omega) (by omega) rfl rfl rfl rfl hTT hsl (by omega) rfl ?_ ?_ ?_ ?_ ?_
      · rfl
      · rfl
      · rfl
      · rfl
      intro vals w4 hG h4
      unfold IsV at h4
      simp only [putD, Act.put, List.setIfInBounds_toArray, List.set_cons_zero, List.set_cons_succ, h4]
      have HB4 := Lib.hid (hB.out.trans (hG.mono hB.out.size))
      clear hG h4 hTT hsl hlt8 hp hq hb'
      go_wp2_with fail
      go_roundw
      case rel => exact ⟨k + 1, by go_num, by omega, by rw [HT.out], HB4⟩
      case measure => simp [Go.RowKit.intOf]; omega
    · have hkN : bs.take k = bs := List.take_of_length_le (by rw [← HN.out]; omega)
      rw [hkN]
      go_wp2_with fail
      go_ret
      exact ⟨rfl, hB.out⟩
end Go.Proofs.YtfodefgihicafaaDoor
/- loamlaw16.text: the reference's words of an object that stands there whole. Conditions: lengths. -/
namespace Go.Proofs.YtfodefgihicafaaDoor
set_option linter.unusedVariables false
set_option linter.unusedSimpArgs false
open Go.RowKit
structure TxR (w : World) (s : Nat) (a : Int) (P N b t : Nat) (ys : List (BitVec 64)) (bs : List (BitVec 8)) : Prop where
  read0 : ∀ W, Below w.heap.size w W → Calls Tryd.prog 14 #[.pointer (some ⟨s, 0, none⟩), .int .i64 a, .int .i64 0, .int .i64 0] W (MkEP b8 5 [] 0 W)
  head : ∀ W, Below w.heap.size w W → Calls Tryd.prog 55 #[.pointer (some ⟨s, 0, none⟩), .int .i64 a] W (RetP (.tuple #[.agg #[.int .i64 P, .int .i64 N, .bool false, .int .i64 0], .int .i64 0]) W)
  ptr : ∀ W, Below w.heap.size w W → ∀ (k : Nat) (h : k < ys.length), Calls Tryd.prog 10 #[.pointer (some ⟨s, 0, none⟩), .int .i64 a, .int .i64 k] W (RetP (.tuple #[.int .i64 (ptV b t ys[k]), .int .i64 (ptE b t ys[k])]) W)
  read : ∀ W, Below w.heap.size w W → Calls Tryd.prog 14 #[.pointer (some ⟨s, 0, none⟩), .int .i64 a, .int .i64 0, .int .i64 N] W (MkEP b8 5 bs 0 W)
  hP : ys.length = P ∧ P ≤ 64
  hN : bs.length = N ∧ N ≤ 1024
  ht : t ≤ 8192
set_option maxHeartbeats 2000000
set_option maxRecDepth 100000
theorem rt_r (Q : Exit → Act → World → Prop) (a0 : Act) (w : World) (hb P N : Nat) (DP DM DE DF : List (BitVec 8)) (m n : Nat) (hh : hb < w.heap.size) (c0 : w.cell? ⟨hb, 0, none⟩ = some (.int .i64 P)) (c1 : w.cell? ⟨hb, 1, none⟩ = some (.int .i64 N)) (hP : P ≤ 64) (hN : N ≤ 1024) (eP : Hid (dcL P = DP ∧ dcL N = DM)) (lP : (strB DP).size = m) (lN : (strB DM).size = n) (m1 : (m : Int) ≤ 100) (n1 : (n : Int) ≤ 2000) (eE : Hid ((DP ++ [32#8]) ++ DM = DE ∧ DE ++ [58#8] = DF)) (hsz : a0.tmps.size = 88) (sl7 : a0.tmps.getD 7 undef = .pointer (some ⟨hb, 0, none⟩))
    (fin : ∀ (vals : Nat → Value) (w1 : World), Below w.heap.size w w1 → (IsV (.string (strB DF))) (vals 8) w1 → wpList Tryd.prog #[{ dst := some 9, op := Go.Op.assign (Go.Operand.tmp 44), type := 9, pos := "", after := #[], guard := none }] Q [{ dst := some 9, op := Go.Op.assign (Go.Operand.tmp 44), type := 9, pos := "", after := #[], guard := none }] (putD vals [36, 37, 38, 39, 40, 41, 42, 43, 44] 0 a0) w1) :
    (Code.region 5 (regIn Tryd.f21 5) true).wp Tryd.prog Q a0 w := by
  refine region_by_tail (m := 9) (G := fun w w1 => Below w.heap.size w w1) [IsV (.pointer (some ⟨hb, 0, none⟩)),
    IsV (.int .i64 P),
    IsV (.string (strB DP)),
    IsV (.string (strB (DP ++ [32#8]))),
    IsV (.pointer (some ⟨hb, 1, none⟩)),
    IsV (.int .i64 N),
    IsV (.string (strB DM)),
    IsV (.string (strB DE)),
    IsV (.string (strB DF))]
    [36, 37, 38, 39, 40, 41, 42, 43, 44] (by kernel_rfl) (Gw.drew _) Gw.trans (by rw [hsz]; kernel_rfl) (by kernel_rfl) ?_ ?_ ?_
  · intro f hf
    simp only [List.mem_cons, List.not_mem_nil, or_false] at hf
    rcases hf with rfl | rfl | rfl | rfl | rfl | rfl | rfl | rfl | rfl <;> intro v a b h g <;> first | exact IsV.mono h
  · refine ⟨?_, ?_, ?_, ?_, ?_, ?_, ?_, ?_, ?_, trivial⟩
    · refine owes_v (Go.Op.fieldAddr 74 (Go.Operand.tmp 7) 0) 0 [] (by kernel_rfl) (by kernel_rfl) (by kernel_rfl) rfl fun vals w1 ρ hG hF hρ hcst hfun => ?_
      have e7 : ρ (.tmp 7) = .pointer (some ⟨hb, 0, none⟩) := ((hρ 7).trans (slotO [] (by kernel_rfl))).trans sl7
      clear hρ hF hcst hfun sl7 fin
      exact opv_val (by go_simp <;> rfl) ⟨gw_self _, rfl⟩
    · refine owes_v (Go.Op.load 3 (Go.Operand.tmp 36)) 3 [0] (by kernel_rfl) (by kernel_rfl) (by kernel_rfl) rfl fun vals w1 ρ hG hF hρ hcst hfun => ?_
      have e36 : ρ (.tmp 36) = .pointer (some ⟨hb, 0, none⟩) := ((hρ 36).trans (slotJ [0] (by rw [hsz]; decide) (by kernel_rfl))).trans (hF 0 (by decide))
      have k := (hG.cell (p := ⟨hb, 0, none⟩) hh).trans c0
      clear hρ hF hcst hfun sl7 fin
      exact opv_val (by go_simp <;> rfl) ⟨gw_self _, rfl⟩
    · refine owes_v (Go.Op.call { callee := Go.Callee.value (Go.Operand.func 56), args := #[Go.Operand.tmp 37], argTypes := #[3] }) 9 [1] (by kernel_rfl) (by kernel_rfl) (by kernel_rfl) rfl fun vals w1 ρ hG hF hρ hcst hfun => ?_
      have e37 : ρ (.tmp 37) = .int .i64 P := ((hρ 37).trans (slotJ [1] (by rw [hsz]; decide) (by kernel_rfl))).trans (hF 1 (by decide))
      have k := dec_n P (by omega) w1
      rw [eP.out.1] at k
      clear hρ hF hcst sl7 fin
      exact opv_enter (by go_simp <;> rfl) (of_ret k)
    · refine owes_v (Go.Op.binOp Go.BinOp.add 9 (Go.Operand.tmp 38) (Go.Operand.const (Go.Value.string { data := #[32] })) 9) 9 [2] (by kernel_rfl) (by kernel_rfl) (by kernel_rfl) rfl fun vals w1 ρ hG hF hρ hcst hfun => ?_
      have e38 : ρ (.tmp 38) = .string (strB DP) := ((hρ 38).trans (slotJ [2] (by rw [hsz]; decide) (by kernel_rfl))).trans (hF 2 (by decide))
      have k : strB DP ++ (⟨#[32]⟩ : ByteArray) = strB (DP ++ [32#8]) := app_sd DP ⟨#[32]⟩
      clear hρ hF hfun sl7 fin
      exact opv_val (by go_simp <;> first | rfl | omega) ⟨gw_self _, rfl⟩
    · refine owes_v (Go.Op.fieldAddr 74 (Go.Operand.tmp 7) 1) 0 [] (by kernel_rfl) (by kernel_rfl) (by kernel_rfl) rfl fun vals w1 ρ hG hF hρ hcst hfun => ?_
      have e7 : ρ (.tmp 7) = .pointer (some ⟨hb, 0, none⟩) := ((hρ 7).trans (slotO [] (by kernel_rfl))).trans sl7
      clear hρ hF hcst hfun sl7 fin
      exact opv_val (by go_simp <;> rfl) ⟨gw_self _, rfl⟩
    · refine owes_v (Go.Op.load 3 (Go.Operand.tmp 40)) 3 [4] (by kernel_rfl) (by kernel_rfl) (by kernel_rfl) rfl fun vals w1 ρ hG hF hρ hcst hfun => ?_
      have e40 : ρ (.tmp 40) = .pointer (some ⟨hb, 1, none⟩) := ((hρ 40).trans (slotJ [4] (by rw [hsz]; decide) (by kernel_rfl))).trans (hF 4 (by decide))
      have k := (hG.cell (p := ⟨hb, 1, none⟩) hh).trans c1
      clear hρ hF hcst hfun sl7 fin
      exact opv_val (by go_simp <;> rfl) ⟨gw_self _, rfl⟩
    · refine owes_v (Go.Op.call { callee := Go.Callee.value (Go.Operand.func 56), args := #[Go.Operand.tmp 41], argTypes := #[3] }) 9 [5] (by kernel_rfl) (by kernel_rfl) (by kernel_rfl) rfl fun vals w1 ρ hG hF hρ hcst hfun => ?_
      have e41 : ρ (.tmp 41) = .int .i64 N := ((hρ 41).trans (slotJ [5] (by rw [hsz]; decide) (by kernel_rfl))).trans (hF 5 (by decide))
      have k := dec_n N (by omega) w1
      rw [eP.out.2] at k
      clear hρ hF hcst sl7 fin
      exact opv_enter (by go_simp <;> rfl) (of_ret k)
    · refine owes_v (Go.Op.binOp Go.BinOp.add 9 (Go.Operand.tmp 39) (Go.Operand.tmp 42) 9) 9 [3, 6] (by kernel_rfl) (by kernel_rfl) (by kernel_rfl) rfl fun vals w1 ρ hG hF hρ hcst hfun => ?_
      have e39 : ρ (.tmp 39) = .string (strB (DP ++ [32#8])) := ((hρ 39).trans (slotJ [3, 6] (by rw [hsz]; decide) (by kernel_rfl))).trans (hF 3 (by decide))
      have e42 : ρ (.tmp 42) = .string (strB DM) := ((hρ 42).trans (slotJ [3, 6] (by rw [hsz]; decide) (by kernel_rfl))).trans (hF 6 (by decide))
      have k : strB (DP ++ [32#8]) ++ strB DM = strB DE := by rw [strB_app, eE.out.1]
      have k2 : (strB (DP ++ [32#8])).size = m + 1 := by rw [strB_len, List.length_append, ← strB_len DP, lP]; rfl
      clear hρ hF hcst hfun sl7 fin
      exact opv_val (by go_simp <;> first | rfl | omega) ⟨gw_self _, rfl⟩
    · refine owes_v (Go.Op.binOp Go.BinOp.add 9 (Go.Operand.tmp 43) (Go.Operand.const (Go.Value.string { data := #[58] })) 9) 9 [7] (by kernel_rfl) (by kernel_rfl) (by kernel_rfl) rfl fun vals w1 ρ hG hF hρ hcst hfun => ?_
      have e43 : ρ (.tmp 43) = .string (strB DE) := ((hρ 43).trans (slotJ [7] (by rw [hsz]; decide) (by kernel_rfl))).trans (hF 7 (by decide))
      have k : strB DE ++ (⟨#[58]⟩ : ByteArray) = strB DF := by rw [app_sd, show sB ⟨#[58]⟩ = [58#8] from rfl, eE.out.2]
      have k2 : (strB DE).size = m + 1 + n := by rw [strB_len, ← eE.out.1, List.length_append, List.length_append, ← strB_len DP, lP, ← strB_len DM, lN]; rfl
      clear hρ hF hfun sl7 fin
      exact opv_val (by go_simp <;> first | rfl | omega) ⟨gw_self _, rfl⟩
  · intro vals w1 hG hF
    exact last_list (by kernel_rfl) (by kernel_rfl) (by kernel_rfl) (fin vals w1 hG (hF 8 (by decide +kernel)))
theorem rtext_c (w : World) (s : Nat) (a : Int) (P N b t : Nat) (ys : List (BitVec 64)) (bs : List (BitVec 8)) (h : TxR w s a P N b t ys bs) (R : ByteArray) (hR : R = if ys.all (pokB b t) = true then strB (objS P N ys bs) else strB formS) :
    Calls Tryd.prog 21 #[.pointer (some ⟨s, 0, none⟩), .int .i64 a] w (RetP (.string R) w) := by
  have H := Lib.hid h
  have HR := Lib.hid hR
  have q0 : (P : Int) ≤ 64 := by have := h.hP; omega
  have q1 : (N : Int) ≤ 1024 := by have := h.hN; omega
  clear h hR
  go_enter Tryd.func21, Tryd.ntmps21
  go_wp2_with fail
  refine Calls.mono (H.out.read0 w (Below.refl _ _)) ?_
  rintro e w0 ⟨A0, k0, rfl, hk0, ho0, hb0⟩
  have HB0 := Lib.hid hb0
  clear hk0 ho0 hb0
  have e0 : ([] : List (BitVec 8)).length = 0 := rfl
  rw [e0]
  clear e0
  go_wp2_with fail
  refine Calls.mono (H.out.head w0 HB0.out) ?_
  rintro e w1 ⟨rfl, hb1⟩
  have HB1 := Lib.hid (HB0.out.trans (hb1.mono HB0.out.size))
  clear hb1
  go_wp2_with fail
  obtain ⟨q, hq⟩ : ∃ q, q = w1.heap.size := ⟨_, rfl⟩
  obtain ⟨wa, hwa⟩ : ∃ W, W = w1.alloc (.cells #[.int .i64 P, .int .i64 N, .bool false, .int .i64 0] 74) := ⟨_, rfl⟩
  rw [← hq, ← hwa]
  have k1 : Bk wa q 74 #[.int .i64 P, .int .i64 N, .bool false, .int .i64 0] := by rw [hwa, hq]; exact Bk.new w1 _ _
  have d1 : Below w.heap.size w wa := by rw [hwa]; exact HB1.out.trans ((Gw.alloc w1 _).mono HB1.out.size)
  have HS := Lib.hid (And.intro k1 d1)
  clear hq hwa k1 d1
  obtain ⟨DP, hDP⟩ : ∃ D, D = dcL P := ⟨_, rfl⟩
  obtain ⟨DM, hDM⟩ : ∃ D, D = dcL N := ⟨_, rfl⟩
  have HD := Lib.hid (And.intro hDP.symm hDM.symm)
  have hlP : DP.length ≤ 65 := by have h1 := dcL_len P; rw [hDP]; omega
  have hlN : DM.length ≤ 1025 := by have h1 := dcL_len N; rw [hDM]; omega
  have Hdl := Lib.hid (And.intro hlP hlN)
  have HH := Lib.hid (show (DP ++ [32#8] ++ DM) ++ [58#8] = hdT P N ∧ (hdT P N).length ≤ 2000 from ⟨by unfold hdT; rw [hDP, hDM], hdT_len P N (by omega) (by omega)⟩)
  clear hDP hDM hlP hlN
  refine rt_r _ _ _ q P N DP DM (DP ++ [32#8] ++ DM) (hdT P N) DP.length DM.length HS.out.1.lt (HS.out.1.cell 0) (HS.out.1.cell 1) (by omega) (by omega) HD (strB_len _) (strB_len _) (by have := Hdl.out; omega) (by have := Hdl.out; omega) (Lib.hid ⟨rfl, HH.out.1⟩) rfl ?_ ?_
  · rfl
  intro vals w3 hG h44
  unfold IsV at h44
  simp only [putD, Act.put, List.setIfInBounds_toArray, List.set_cons_zero, List.set_cons_succ, h44]
  have H3 := Lib.hid (show hdT P N = hdT P N ++ ptsT (ys.take 0) ∧ Bk w3 q 74 #[.int .i64 P, .int .i64 N, .bool false, .int .i64 0] ∧ Below w.heap.size w w3 from ⟨by rw [List.take_zero]; show _ = hdT P N ++ []; rw [List.append_nil], HS.out.1.below hG HS.out.1.lt, HS.out.2.trans (hG.mono HS.out.2.size)⟩)
  clear hG h44 HS
  obtain ⟨X0, hX0⟩ : ∃ X, X = hdT P N := ⟨_, rfl⟩
  rw [← hX0]
  have H3b := Lib.hid (show X0 = hdT P N ++ ptsT (ys.take 0) from hX0.trans H3.out.1)
  clear hX0
  go_wp2_with fail
  go_loopw [9, 10] (fun sv i W => ∃ (k : Nat) (X : List (BitVec 8)), i = .int .i64 k ∧ sv = .string (strB X) ∧ k ≤ P ∧ Hid (X = hdT P N ++ ptsT (ys.take k) ∧ Bk W q 74 #[.int .i64 P, .int .i64 N, .bool false, .int .i64 0] ∧ Below w.heap.size w W) ∧ Hid ((ys.take k).all (pokB b t) = true)) (fun _ i _ => P - (Go.RowKit.intOf i).toNat)
  case atStart => exact ⟨0, X0, rfl, rfl, Nat.zero_le _, Lib.hid ⟨H3b.out, H3.out.2⟩, Lib.hid rfl⟩
  case round =>
    clear H3 H3b
    obtain ⟨k, X, rfl, rfl, hk, hS, hA⟩ := hrel
    obtain ⟨c0, c1, _, _⟩ := hS.out.2.1.four
    have hbl := hS.out.2.1.lt
    have hlen : X.length ≤ 600000 := by
      rw [hS.out.1, List.length_append]
      have h1 := ptsT_len (ys.take k) (fun z hz => pok_le (List.all_eq_true.1 hA.out z hz) H.out.ht)
      have h2 := HH.out.2
      rw [List.length_take] at h1
      omega
    have HLn := Lib.hid hlen
    clear hlen
    by_cases hlt : k < P
    · have hkl : k < ys.length := by rw [H.out.hP.1]; exact hlt
      obtain ⟨y, hy⟩ : ∃ y, y = ys[k] := ⟨_, rfl⟩
      have HP := Lib.hid (H.out.ptr wr hS.out.2.2 k hkl)
      rw [← hy] at HP
      have hmem : y ∈ ys := by rw [hy]; exact List.getElem_mem _
      have hnx : ptsT (ys.take (k + 1)) = ptsT (ys.take k) ++ ptT y := by rw [List.take_succ_eq_append_getElem hkl, ptsT_snoc, ← hy]
      have hal : (ys.take (k + 1)).all (pokB b t) = ((ys.take k).all (pokB b t) && pokB b t y) := by rw [List.take_succ_eq_append_getElem hkl, List.all_append, ← hy]; simp
      have p1 : (0 : Int) ≤ (k : Int) := by omega
      have p2 : (k : Int) < (P : Int) := by omega
      obtain ⟨lx, hlx⟩ : ∃ n, n = X.length := ⟨_, rfl⟩
      have l1 : (strB X).size = lx := by rw [strB_len, hlx]
      have l2 : (lx : Int) ≤ 600000 := by have := HLn.out; omega
      have Hlx := Lib.hid hlx
      clear hlx
      cases hpk : pokB b t y with
      | false =>
        obtain ⟨e1, e2⟩ := pt_no hpk
        rw [e1, e2] at HP
        have HRf := Lib.hid (show R = strB formS from by rw [HR.out, if_neg (all_no hmem hpk)])
        clear e1 e2 hpk hal hnx hmem hy hkl
        go_wp2_with fail
        refine Calls.mono HP.out ?_
        rintro r w5 ⟨rfl, b5⟩
        have B5 := Lib.hid (hS.out.2.2.trans (b5.mono hS.out.2.2.size))
        clear b5 HP
        go_wp2_with fail
        go_ret
        exact ⟨by rw [HRf.out]; rfl, B5.out⟩
      | true =>
        obtain ⟨e1, e2⟩ := pt_yes hpk
        have hyt := pok_le hpk H.out.ht
        have HAl := Lib.hid (show (ys.take (k + 1)).all (pokB b t) = true from by rw [hal, hA.out, hpk]; rfl)
        by_cases hy0 : y.toNat = 0
        · have e3 : ptV b t y = -1 := by rw [e1, hy0]; rfl
          rw [e3, e2] at HP
          obtain ⟨X2, hX2⟩ : ∃ X2, X2 = X ++ [32#8, 45#8] := ⟨_, rfl⟩
          have a4 : strB X ++ (⟨#[32, 45]⟩ : ByteArray) = strB X2 := by rw [hX2]; exact app_sd X ⟨#[32, 45]⟩
          have HNx := Lib.hid (show X2 = hdT P N ++ ptsT (ys.take (k + 1)) from by rw [hnx]; unfold ptT; rw [if_pos hy0, hX2, hS.out.1, List.append_assoc])
          clear e1 e2 e3 hpk hal hnx hmem hy hkl hyt hy0 hX2
          go_wp2_with fail
          refine Calls.mono HP.out ?_
          rintro r w5 ⟨rfl, b5⟩
          have H5 := Lib.hid (show Bk w5 q 74 #[.int .i64 P, .int .i64 N, .bool false, .int .i64 0] ∧ Below w.heap.size w w5 from ⟨hS.out.2.1.below b5 hS.out.2.1.lt, hS.out.2.2.trans (b5.mono hS.out.2.2.size)⟩)
          clear b5 HP
          go_wp2_with fail
          go_roundw
          case rel =>
            have Z : ∃ (k' : Nat) (X' : List (BitVec 8)), (Value.int .i64 ((k : Int) + 1)) = .int .i64 k' ∧ (Value.string (strB X2)) = .string (strB X') ∧ k' ≤ P ∧ Hid (X' = hdT P N ++ ptsT (ys.take k') ∧ Bk w5 q 74 #[.int .i64 P, .int .i64 N, .bool false, .int .i64 0] ∧ Below w.heap.size w w5) ∧ Hid ((ys.take k').all (pokB b t) = true) := ⟨k + 1, X2, by go_num, rfl, by omega, Lib.hid ⟨HNx.out, H5.out⟩, HAl⟩
            repeat (first | exact Z | exact ⟨Z, rfl⟩ | apply Exists.intro)
          case measure => simp [Go.RowKit.intOf]; omega
        · obtain ⟨Z, hZ⟩ : ∃ Z, Z = y.toNat - 1 := ⟨_, rfl⟩
          have e3 : ptV b t y = (Z : Int) := by rw [e1]; omega
          rw [e3, e2] at HP
          have HI := Lib.hid (fun W => dec_n Z (by omega) W)
          obtain ⟨D, hD⟩ : ∃ D, D = dcL Z := ⟨_, rfl⟩
          rw [← hD] at HI
          have hDl : D.length ≤ 8193 := by have h1 := dcL_len Z; rw [hD]; omega
          obtain ⟨dl, hdl⟩ : ∃ n, n = D.length := ⟨_, rfl⟩
          obtain ⟨X1, hX1⟩ : ∃ X2, X2 = X ++ [32#8] := ⟨_, rfl⟩
          obtain ⟨X2, hX2⟩ : ∃ X2, X2 = X1 ++ D := ⟨_, rfl⟩
          have a4 : strB X ++ (⟨#[32]⟩ : ByteArray) = strB X1 := by rw [hX1]; exact app_sd X ⟨#[32]⟩
          have a5 : strB X1 ++ strB D = strB X2 := by rw [hX2]; exact strB_app X1 D
          have a6 : (strB X1).size = lx + 1 := by rw [strB_len, hX1, List.length_append, ← Hlx.out]; rfl
          have a7 : (strB D).size = dl := by rw [strB_len, hdl]
          have a8 : (dl : Int) ≤ 8193 := by omega
          have a9 : ¬ (Z : Int) < 0 := by omega
          have HNx := Lib.hid (show X2 = hdT P N ++ ptsT (ys.take (k + 1)) from by rw [hnx]; unfold ptT; rw [if_neg hy0, ← hZ, ← hD, hX2, hX1, hS.out.1, List.append_assoc, List.append_assoc]; rfl)
          clear e1 e2 e3 hpk hal hnx hmem hy hkl hyt hy0 hZ hD hDl hdl hX1 hX2
          go_wp2_with fail
          refine Calls.mono HP.out ?_
          rintro r w5 ⟨rfl, b5⟩
          have H5 := Lib.hid (show Bk w5 q 74 #[.int .i64 P, .int .i64 N, .bool false, .int .i64 0] ∧ Below w.heap.size w w5 from ⟨hS.out.2.1.below b5 hS.out.2.1.lt, hS.out.2.2.trans (b5.mono hS.out.2.2.size)⟩)
          clear b5 HP
          go_wp2_with fail
          refine Calls.mono (HI.out _) ?_
          rintro r w6 ⟨rfl, b6⟩
          have H6 := Lib.hid (show Bk w6 q 74 #[.int .i64 P, .int .i64 N, .bool false, .int .i64 0] ∧ Below w.heap.size w w6 from ⟨H5.out.1.below b6 H5.out.1.lt, H5.out.2.trans (b6.mono H5.out.2.size)⟩)
          clear b6 H5
          go_wp2_with fail
          go_roundw
          case rel =>
            have Z : ∃ (k' : Nat) (X' : List (BitVec 8)), (Value.int .i64 ((k : Int) + 1)) = .int .i64 k' ∧ (Value.string (strB X2)) = .string (strB X') ∧ k' ≤ P ∧ Hid (X' = hdT P N ++ ptsT (ys.take k') ∧ Bk w6 q 74 #[.int .i64 P, .int .i64 N, .bool false, .int .i64 0] ∧ Below w.heap.size w w6) ∧ Hid ((ys.take k').all (pokB b t) = true) := ⟨k + 1, X2, by go_num, rfl, by omega, Lib.hid ⟨HNx.out, H6.out⟩, HAl⟩
            repeat (first | exact Z | exact ⟨Z, rfl⟩ | apply Exists.intro)
          case measure => simp [Go.RowKit.intOf]; omega
    · have hkP : k = P := by omega
      have htk : ys.take k = ys := List.take_of_length_le (by rw [H.out.hP.1]; omega)
      have hX := hS.out.1
      have hA1 := hA.out
      rw [htk] at hX hA1
      have HRf := Lib.hid (show R = strB ((X ++ spT bs) ++ hexB bs) from by rw [HR.out, if_pos hA1, hX]; rfl)
      have HB9 := Lib.hid hS.out.2.2
      obtain ⟨lx, hlx⟩ : ∃ n, n = X.length := ⟨_, rfl⟩
      have l1 : (strB X).size = lx := by rw [strB_len, hlx]
      have l2 : (lx : Int) ≤ 600000 := by have := HLn.out; omega
      have Hlx := Lib.hid hlx
      clear hkP htk hX hA1 hS hA hk hlx
      go_wp2_with fail
      refine Calls.mono (H.out.read wr HB9.out) ?_
      rintro e w6 ⟨A, c6, rfl, hc6, ho6, hb6⟩
      have hbn : bs.length = N := H.out.hN.1
      have B6 := Lib.hid (HB9.out.trans (hb6.mono HB9.out.size))
      by_cases hN0 : N = 0
      · have hbs : bs = [] := List.eq_nil_of_length_eq_zero (by omega)
        have HR2 := Lib.hid (show R = strB X from by rw [HRf.out, hbs]; show strB ((X ++ []) ++ []) = _; rw [List.append_nil, List.append_nil])
        rw [hbn]
        subst hN0
        clear hbn hbs ho6 hb6 hc6 c0 c1
        go_wp2_with fail
        go_ret
        exact ⟨by rw [HR2.out]; rfl, B6.out⟩
      · have hne : bs ≠ [] := fun e => by rw [e] at hbn; simp at hbn; omega
        have hsp : spT bs = [32#8] := by unfold spT; rw [if_neg hne]
        rw [hsp] at HRf
        have HX := Lib.hid (hex_c w6 A c6 bs ho6.rd (by have := H.out.hN; omega))
        rw [hbn] at HX ⊢
        obtain ⟨D, hD⟩ : ∃ D, D = hexB bs := ⟨_, rfl⟩
        rw [← hD] at HX HRf
        obtain ⟨dl, hdl⟩ : ∃ n, n = D.length := ⟨_, rfl⟩
        obtain ⟨X1, hX1⟩ : ∃ X2, X2 = X ++ [32#8] := ⟨_, rfl⟩
        obtain ⟨X2, hX2⟩ : ∃ X2, X2 = X1 ++ D := ⟨_, rfl⟩
        have a4 : strB X ++ (⟨#[32]⟩ : ByteArray) = strB X1 := by rw [hX1]; exact app_sd X ⟨#[32]⟩
        have a5 : strB X1 ++ strB D = strB X2 := by rw [hX2]; exact strB_app X1 D
        have a6 : (strB X1).size = lx + 1 := by rw [strB_len, hX1, List.length_append, ← Hlx.out]; rfl
        have a7 : (strB D).size = dl := by rw [strB_len, hdl]
        have a8 : (dl : Int) ≤ 4000 := by rw [hdl, hD, hexB_len]; have := H.out.hN; omega
        have n0 : (0 : Int) < (N : Int) := by omega
        have HRg := Lib.hid (show R = strB X2 from by rw [HRf.out, ← hX1, ← hX2])
        clear hne hsp hD hdl hX1 hX2 hN0 hbn ho6 hb6 hc6 c0 c1
        go_wp2_with fail
        refine Calls.mono HX.out ?_
        rintro e w7 ⟨rfl, b7⟩
        have B7 := Lib.hid (B6.out.trans (b7.mono B6.out.size))
        clear b7
        go_wp2_with fail
        go_ret
        exact ⟨by rw [HRg.out]; rfl, B7.out⟩
end Go.Proofs.YtfodefgihicafaaDoor
/- obj.Text of any place: what it tells, as a function of the words. Conditions: lengths; the tables. -/
namespace Go.Proofs.YtfodefgihicafaaDoor
set_option linter.unusedVariables false
set_option linter.unusedSimpArgs false
open Go.RowKit
def ysO (ws : List (BitVec 64)) (i : Nat) : List (BitVec 64) := (List.range (P0 (ws.getD i 0#64))).map fun k => ws.getD (i + 1 + k) 0#64
def bsO (ws : List (BitVec 64)) (i : Nat) : List (BitVec 8) := bytesM ws (8 * (i + 1 + P0 (ws.getD i 0#64)) + 0) (B0 (ws.getD i 0#64))
def objT (ws : List (BitVec 64)) (b t : Nat) (a : Int) : ByteArray :=
  if lkE ws b t a = 0 then (if (ysO ws a.toNat).all (pokB b t) = true then strB (objS (P0 (ws.getD a.toNat 0#64)) (B0 (ws.getD a.toNat 0#64)) (ysO ws a.toNat) (bsO ws a.toNat)) else strB formS)
  else if lkE ws b t a = 1 then strB argS else strB formS
theorem ysO_len (ws : List (BitVec 64)) (i : Nat) : (ysO ws i).length = P0 (ws.getD i 0#64) := by unfold ysO; simp
theorem ysO_get {ws : List (BitVec 64)} {i k : Nat} (h : k < (ysO ws i).length) : (ysO ws i)[k] = ws.getD (i + 1 + k) 0#64 := by unfold ysO; simp
theorem bsO_len (ws : List (BitVec 64)) (i : Nat) : (bsO ws i).length = B0 (ws.getD i 0#64) := by unfold bsO bytesM; simp
set_option maxHeartbeats 1000000
set_option maxRecDepth 100000
theorem otext_err (w : World) (B s g : Nat) (v : Value) (ws : List (BitVec 64)) (b t e : Nat) (p : SpAt w B s g v ws b t e) (hl : ws.length ≤ 100000) (a : Int) (h : lkE ws b t a ≠ 0) :
    Calls Tryd.prog 20 #[.pointer (some ⟨s, 0, none⟩), .int .i64 a] w (RetP (.string (if lkE ws b t a = 1 then strB argS else strB formS)) w) := by
  have HL := Lib.hid (look_err w B s g v ws b t e p hl a h)
  have hE2 : lkE ws b t a = 1 ∨ lkE ws b t a = 2 := by
    rcases lkE_two (ws := ws) (b := b) (t := t) (a := a) with h1 | h1 | h1
    · exact absurd h1 h
    · exact .inl h1
    · exact .inr h1
  unfold zH at HL
  clear p hl h
  rcases hE2 with hE | hE
  · rw [hE] at HL ⊢
    clear hE
    rw [if_pos rfl]
    go_enter Tryd.func20, Tryd.ntmps20
    go_wp2_with fail
    refine Calls.mono HL.out ?_
    rintro r w2 ⟨rfl, b2⟩
    have HB := Lib.hid b2
    clear b2 HL
    go_wp2_with fail
    refine Calls.mono (era_c _) ?_
    rintro r w3 ⟨rfl, b3⟩
    have HB3 := Lib.hid (HB.out.trans (((Gw.alloc w2 (.cells #[.int .i64 0, .int .i64 0, .bool false, .int .i64 0] 60)).trans (b3.mono (Gw.alloc w2 _).size)).mono HB.out.size))
    clear b3
    go_wp2_with fail
    go_ret
    exact ⟨rfl, HB3.out⟩
  · rw [hE] at HL ⊢
    clear hE
    rw [if_neg (by decide)]
    go_enter Tryd.func20, Tryd.ntmps20
    go_wp2_with fail
    refine Calls.mono HL.out ?_
    rintro r w2 ⟨rfl, b2⟩
    have HB := Lib.hid b2
    clear b2 HL
    go_wp2_with fail
    refine Calls.mono (erf_c _) ?_
    rintro r w3 ⟨rfl, b3⟩
    have HB3 := Lib.hid (HB.out.trans (((Gw.alloc w2 (.cells #[.int .i64 0, .int .i64 0, .bool false, .int .i64 0] 60)).trans (b3.mono (Gw.alloc w2 _).size)).mono HB.out.size))
    clear b3
    go_wp2_with fail
    go_ret
    exact ⟨rfl, HB3.out⟩
theorem otext_any (w : World) (B s g : Nat) (v : Value) (ws : List (BitVec 64)) (b t e : Nat) (p : SpAt w B s g v ws b t e) (hl : ws.length ≤ 8192) (a : Int) (ht : w.cell? ⟨2, 15, none⟩ = some (.int .u8 4)) (ten : Lib.TabIs Tryd.prog w "internal/strconv.uint64pow10" .u64 Lib.pow10Tab) :
    Calls Tryd.prog 20 #[.pointer (some ⟨s, 0, none⟩), .int .i64 a] w (RetP (.string (objT ws b t a)) w) := by
  by_cases h : lkE ws b t a = 0
  · have e1 : objT ws b t a = if (ysO ws a.toNat).all (pokB b t) = true then strB (objS (P0 (ws.getD a.toNat 0#64)) (B0 (ws.getD a.toNat 0#64)) (ysO ws a.toNat) (bsO ws a.toNat)) else strB formS := by unfold objT; rw [if_pos h]
    obtain ⟨i, rfl, h1, h2, hg⟩ := lkE_zero h
    rw [Int.toNat_natCast] at e1
    obtain ⟨_, hP, hN, _, _, _⟩ := head_of hg
    refine otext_c w s i (P0 (ws.getD i 0#64)) (B0 (ws.getD i 0#64)) b t (ysO ws i) (bsO ws i) ⟨fun W hb => look_ok W B s g v ws b t e (p.below hb) (by omega) i h1 h2 hg, fun W hb k hk => ?_, fun W hb => ?_, ht, ten, ⟨ysO_len ws i, hP⟩, ⟨bsO_len ws i, hN⟩, by have := p.te; have := p.el; omega⟩ _ e1
    · rw [ysO_get hk]
      exact Ptr_c W B s g v ws b t e (p.below hb) hl i k h1 h2 hg (by rw [← ysO_len ws i]; exact hk)
    · exact read_ok W B s g v ws b t e (p.below hb) (by omega) i 0 _ h1 h2 hg (by omega)
  · have e1 : objT ws b t a = if lkE ws b t a = 1 then strB argS else strB formS := by unfold objT; rw [if_neg h]
    rw [e1]
    exact otext_err w B s g v ws b t e p (by omega) a h
end Go.Proofs.YtfodefgihicafaaDoor
/- loamlaw16.text of any place: the same as the program's. Conditions: lengths. -/
namespace Go.Proofs.YtfodefgihicafaaDoor
set_option linter.unusedVariables false
set_option linter.unusedSimpArgs false
open Go.RowKit
set_option maxHeartbeats 1000000
set_option maxRecDepth 100000
theorem rtext_err (w : World) (s c : Nat) (A : Option Addr) (ws : List (BitVec 64)) (b t e : Nat) (p : RefAt w s A c ws b t e) (hte : t ≤ ws.length) (hl : ws.length ≤ 100000) (a : Int) (h : lkE ws b t a ≠ 0) :
    Calls Tryd.prog 21 #[.pointer (some ⟨s, 0, none⟩), .int .i64 a] w (RetP (.string (if lkE ws b t a = 1 then strB argS else strB formS)) w) := by
  have HL := Lib.hid (rRead_err w s c A ws b t e p hte hl a 0 0 h)
  have hE2 : lkE ws b t a = 1 ∨ lkE ws b t a = 2 := by
    rcases lkE_two (ws := ws) (b := b) (t := t) (a := a) with h1 | h1 | h1
    · exact absurd h1 h
    · exact .inl h1
    · exact .inr h1
  clear p hl h hte
  rcases hE2 with hE | hE
  · rw [hE] at HL ⊢
    clear hE
    rw [if_pos rfl]
    go_enter Tryd.func21, Tryd.ntmps21
    go_wp2_with fail
    refine Calls.mono HL.out ?_
    rintro r w2 ⟨rfl, b2⟩
    have HB := Lib.hid b2
    clear b2 HL
    go_wp2_with fail
    go_ret
    exact ⟨rfl, HB.out.trans ((Gw.alloc w2 _).mono HB.out.size)⟩
  · rw [hE] at HL ⊢
    clear hE
    rw [if_neg (by decide)]
    go_enter Tryd.func21, Tryd.ntmps21
    go_wp2_with fail
    refine Calls.mono HL.out ?_
    rintro r w2 ⟨rfl, b2⟩
    have HB := Lib.hid b2
    clear b2 HL
    go_wp2_with fail
    go_ret
    exact ⟨rfl, HB.out.trans ((Gw.alloc w2 _).mono HB.out.size)⟩
theorem rtext_any (w : World) (s c : Nat) (A : Option Addr) (ws : List (BitVec 64)) (b t e : Nat) (p : RefAt w s A c ws b t e) (hte : t ≤ ws.length) (hl : ws.length ≤ 8192) (a : Int) :
    Calls Tryd.prog 21 #[.pointer (some ⟨s, 0, none⟩), .int .i64 a] w (RetP (.string (objT ws b t a)) w) := by
  by_cases h : lkE ws b t a = 0
  · have e1 : objT ws b t a = if (ysO ws a.toNat).all (pokB b t) = true then strB (objS (P0 (ws.getD a.toNat 0#64)) (B0 (ws.getD a.toNat 0#64)) (ysO ws a.toNat) (bsO ws a.toNat)) else strB formS := by unfold objT; rw [if_pos h]
    obtain ⟨i, rfl, h1, h2, hg⟩ := lkE_zero h
    rw [Int.toNat_natCast] at e1
    obtain ⟨hv, hP, hN, _, _, _⟩ := head_of hg
    have hiw : i < ws.length := by omega
    have hgx : ws[i] = ws.getD i 0#64 := by rw [List.getD_eq_getElem?_getD, List.getElem?_eq_getElem hiw]; rfl
    refine rtext_c w s i (P0 (ws.getD i 0#64)) (B0 (ws.getD i 0#64)) b t (ysO ws i) (bsO ws i) ⟨fun W hb => ?_, fun W hb => ?_, fun W hb k hk => ?_, fun W hb => ?_, ⟨ysO_len ws i, hP⟩, ⟨bsO_len ws i, hN⟩, by omega⟩ _ e1
    · exact rRead_ok W s c A ws b t e (p.below hb) hte hl i 0 0 h1 h2 hg (by omega)
    · have k := rhead_in W s b t e c A ws (p.below hb).blk (p.below hb).rd i h1 h2 (by omega) hiw
      rw [hgx, hv] at k
      exact k
    · rw [ysO_get hk]
      exact rPtr_c W s c A ws b t e (p.below hb) hte hl i k h1 h2 hg (by rw [← ysO_len ws i]; exact hk)
    · exact rRead_ok W s c A ws b t e (p.below hb) hte hl i 0 _ h1 h2 hg (by omega)
  · have e1 : objT ws b t a = if lkE ws b t a = 1 then strB argS else strB formS := by unfold objT; rw [if_neg h]
    rw [e1]
    exact rtext_err w s c A ws b t e p hte (by omega) a h
end Go.Proofs.YtfodefgihicafaaDoor
/- The reference's Well: its regions that draw their order. Conditions: lengths. (BEGUN: Well itself is still to come.) -/
namespace Go.Proofs.YtfodefgihicafaaDoor
set_option linter.unusedVariables false
set_option linter.unusedSimpArgs false
open Go.RowKit
set_option maxHeartbeats 1000000
set_option maxRecDepth 100000
theorem rw11 (Q : Exit → Act → World → Prop) (a0 : Act) (w : World) (R a k q i N : Nat) (A B : Option Addr) (L c cl : Nat) (b t e y : Int) (r : Bool) (x : BitVec 64) (hR : R < w.heap.size) (ad ad2 : Addr) (hA : A = some ad) (hB : B = some ad2) (c0 : w.cell? ⟨R, 0, none⟩ = some (.slice A L c)) (hlt : (ad2.add i).block < w.heap.size) (hlt2 : (ad.add q).block < w.heap.size) (cl1 : w.cell? (ad2.add i) = some (.int .i64 (a : Int))) (q0 : (0 : Int) ≤ (i : Int)) (q1 : (i : Int) < (N : Int)) (q2 : (0 : Int) ≤ (a : Int)) (q3 : (a : Int) ≤ 100000) (q4 : (k : Int) ≤ 100) (q5 : (0 : Int) ≤ (k : Int)) (q6 : (q : Int) < (L : Int)) (q7 : (a : Int) + 1 + (k : Int) = (q : Int)) (q8 : (0 : Int) ≤ (q : Int)) (cw : w.cell? (ad.add q) = some (.int .u64 (U64 x))) (hp : Hid (∀ W, Below w.heap.size w W → Calls Tryd.prog 47 #[.slice B N cl, .int .u64 (U64 x)] W (RetP (.bool r) W))) (hsz : a0.tmps.size = 65) (sl0 : a0.tmps.getD 0 undef = .pointer (some ⟨R, 0, none⟩)) (sl3 : a0.tmps.getD 3 undef = .slice B N cl) (sl5 : a0.tmps.getD 5 undef = .int .i64 (i : Int)) (sl8 : a0.tmps.getD 8 undef = .int .i64 (k : Int))
    (fin : ∀ (vals : Nat → Value) (w1 : World), Below w.heap.size w w1 → (IsV (.bool (!r))) (vals 15) w1 → Q .normal (putD vals [42, 43, 44, 45, 46, 47, 48, 49, 50, 51, 52, 53, 54, 55, 56, 57] 0 a0) w1) :
    (Code.region 11 (regIn Tryd.f19 11) true).wp Tryd.prog Q a0 w := by
  refine region_by (G := fun w w1 => Below w.heap.size w w1) [IsV (.slice B N cl),
    IsV (.pointer (some ⟨R, 0, none⟩)),
    IsV (.pointer (some ⟨R, 0, none⟩)),
    IsV (.pointer (some ⟨R, 0, none⟩)),
    IsV (.slice A L c),
    IsV (.slice B N cl),
    IsV (.int .i64 (i : Int)),
    IsV (.pointer (some (ad2.add i))),
    IsV (.int .i64 (a : Int)),
    IsV (.int .i64 ((a : Int) + 1)),
    IsV (.int .i64 (k : Int)),
    IsV (.int .i64 (q : Int)),
    IsV (.pointer (some (ad.add q))),
    IsV (.int .u64 (U64 x)),
    IsV (.bool r),
    IsV (.bool (!r))]
    [42, 43, 44, 45, 46, 47, 48, 49, 50, 51, 52, 53, 54, 55, 56, 57] (by kernel_rfl) (Gw.drew _) Gw.trans (by rw [hsz]; kernel_rfl) (by kernel_rfl) ?_ ?_ ?_
  · intro f hf
    simp only [List.mem_cons, List.not_mem_nil, or_false] at hf
    rcases hf with rfl | rfl | rfl | rfl | rfl | rfl | rfl | rfl | rfl | rfl | rfl | rfl | rfl | rfl | rfl | rfl <;> intro v a b h g <;> first | exact IsV.mono h
  · refine ⟨?_, ?_, ?_, ?_, ?_, ?_, ?_, ?_, ?_, ?_, ?_, ?_, ?_, ?_, ?_, ?_, trivial⟩
    · exact owes_mv 3 (by kernel_rfl) (by kernel_rfl) (by kernel_rfl) sl3 (fun _ => rfl)
    · exact owes_mv 0 (by kernel_rfl) (by kernel_rfl) (by kernel_rfl) sl0 (fun _ => rfl)
    · refine owes_v (Go.Op.nilCheck (Go.Operand.tmp 43)) 0 [1] (by kernel_rfl) (by kernel_rfl) (by kernel_rfl) rfl fun vals w1 ρ hG hF hρ hcst hfun => ?_
      have e43 : ρ (.tmp 43) = .pointer (some ⟨R, 0, none⟩) := ((hρ 43).trans (slotJ [1] (by rw [hsz]; decide) (by kernel_rfl))).trans (hF 1 (by decide))
      clear hρ hF hcst hfun sl0 sl3 sl5 sl8 fin
      exact opv_val (by go_simp <;> rfl) ⟨gw_self _, rfl⟩
    · refine owes_v (Go.Op.fieldAddr 29 (Go.Operand.tmp 44) 0) 0 [2] (by kernel_rfl) (by kernel_rfl) (by kernel_rfl) rfl fun vals w1 ρ hG hF hρ hcst hfun => ?_
      have e44 : ρ (.tmp 44) = .pointer (some ⟨R, 0, none⟩) := ((hρ 44).trans (slotJ [2] (by rw [hsz]; decide) (by kernel_rfl))).trans (hF 2 (by decide))
      clear hρ hF hcst hfun sl0 sl3 sl5 sl8 fin
      exact opv_val (by go_simp <;> rfl) ⟨gw_self _, rfl⟩
    · refine owes_v (Go.Op.load 22 (Go.Operand.tmp 45)) 22 [3] (by kernel_rfl) (by kernel_rfl) (by kernel_rfl) rfl fun vals w1 ρ hG hF hρ hcst hfun => ?_
      have e45 : ρ (.tmp 45) = .pointer (some ⟨R, 0, none⟩) := ((hρ 45).trans (slotJ [3] (by rw [hsz]; decide) (by kernel_rfl))).trans (hF 3 (by decide))
      have k := (hG.cell (p := ⟨R, 0, none⟩) hR).trans c0
      clear hρ hF hcst hfun sl0 sl3 sl5 sl8 fin
      exact opv_val (by go_simp <;> rfl) ⟨gw_self _, rfl⟩
    · exact owes_mv 3 (by kernel_rfl) (by kernel_rfl) (by kernel_rfl) sl3 (fun _ => rfl)
    · exact owes_mv 5 (by kernel_rfl) (by kernel_rfl) (by kernel_rfl) sl5 (fun _ => rfl)
    · refine owes_v (Go.Op.indexAddr 62 (Go.Operand.tmp 47) (Go.Operand.tmp 48)) 0 [5, 6] (by kernel_rfl) (by kernel_rfl) (by kernel_rfl) rfl fun vals w1 ρ hG hF hρ hcst hfun => ?_
      have e47 : ρ (.tmp 47) = .slice B N cl := ((hρ 47).trans (slotJ [5, 6] (by rw [hsz]; decide) (by kernel_rfl))).trans (hF 5 (by decide))
      have e48 : ρ (.tmp 48) = .int .i64 (i : Int) := ((hρ 48).trans (slotJ [5, 6] (by rw [hsz]; decide) (by kernel_rfl))).trans (hF 6 (by decide))
      subst hB
      clear hρ hF hcst hfun sl0 sl3 sl5 sl8 fin
      exact opv_val (by go_simp <;> rfl) ⟨gw_self _, rfl⟩
    · refine owes_v (Go.Op.load 3 (Go.Operand.tmp 49)) 3 [7] (by kernel_rfl) (by kernel_rfl) (by kernel_rfl) rfl fun vals w1 ρ hG hF hρ hcst hfun => ?_
      have e49 : ρ (.tmp 49) = .pointer (some (ad2.add i)) := ((hρ 49).trans (slotJ [7] (by rw [hsz]; decide) (by kernel_rfl))).trans (hF 7 (by decide))
      have k := (hG.cell (p := ad2.add i) hlt).trans cl1
      clear hρ hF hcst hfun sl0 sl3 sl5 sl8 fin
      exact opv_val (by go_simp <;> rfl) ⟨gw_self _, rfl⟩
    · refine owes_v (Go.Op.binOp Go.BinOp.add 3 (Go.Operand.tmp 50) (Go.Operand.const (Go.Value.int Go.IntKind.i64 1)) 3) 3 [8] (by kernel_rfl) (by kernel_rfl) (by kernel_rfl) rfl fun vals w1 ρ hG hF hρ hcst hfun => ?_
      have e50 : ρ (.tmp 50) = .int .i64 (a : Int) := ((hρ 50).trans (slotJ [8] (by rw [hsz]; decide) (by kernel_rfl))).trans (hF 8 (by decide))
      have kw0 : IntKind.i64.wrap (((a : Int) + 1)) = ((a : Int) + 1) := wrapIn (by omega) (by omega)
      clear hρ hF hfun sl0 sl3 sl5 sl8 fin
      exact opv_val (by go_simp <;> rfl) ⟨gw_self _, rfl⟩
    · exact owes_mv 8 (by kernel_rfl) (by kernel_rfl) (by kernel_rfl) sl8 (fun _ => rfl)
    · refine owes_v (Go.Op.binOp Go.BinOp.add 3 (Go.Operand.tmp 51) (Go.Operand.tmp 52) 3) 3 [9, 10] (by kernel_rfl) (by kernel_rfl) (by kernel_rfl) rfl fun vals w1 ρ hG hF hρ hcst hfun => ?_
      have e51 : ρ (.tmp 51) = .int .i64 ((a : Int) + 1) := ((hρ 51).trans (slotJ [9, 10] (by rw [hsz]; decide) (by kernel_rfl))).trans (hF 9 (by decide))
      have e52 : ρ (.tmp 52) = .int .i64 (k : Int) := ((hρ 52).trans (slotJ [9, 10] (by rw [hsz]; decide) (by kernel_rfl))).trans (hF 10 (by decide))
      have kw0 : IntKind.i64.wrap (((q : Int))) = ((q : Int)) := wrapIn (by omega) (by omega)
      clear hρ hF hcst hfun sl0 sl3 sl5 sl8 fin
      exact opv_val (by go_simp <;> rfl) ⟨gw_self _, rfl⟩
    · refine owes_v (Go.Op.indexAddr 22 (Go.Operand.tmp 46) (Go.Operand.tmp 53)) 0 [4, 11] (by kernel_rfl) (by kernel_rfl) (by kernel_rfl) rfl fun vals w1 ρ hG hF hρ hcst hfun => ?_
      have e46 : ρ (.tmp 46) = .slice A L c := ((hρ 46).trans (slotJ [4, 11] (by rw [hsz]; decide) (by kernel_rfl))).trans (hF 4 (by decide))
      have e53 : ρ (.tmp 53) = .int .i64 (q : Int) := ((hρ 53).trans (slotJ [4, 11] (by rw [hsz]; decide) (by kernel_rfl))).trans (hF 11 (by decide))
      subst hA
      clear hρ hF hcst hfun sl0 sl3 sl5 sl8 fin
      exact opv_val (by go_simp <;> rfl) ⟨gw_self _, rfl⟩
    · refine owes_v (Go.Op.load 68 (Go.Operand.tmp 54)) 68 [12] (by kernel_rfl) (by kernel_rfl) (by kernel_rfl) rfl fun vals w1 ρ hG hF hρ hcst hfun => ?_
      have e54 : ρ (.tmp 54) = .pointer (some (ad.add q)) := ((hρ 54).trans (slotJ [12] (by rw [hsz]; decide) (by kernel_rfl))).trans (hF 12 (by decide))
      have k := (hG.cell (p := ad.add q) hlt2).trans cw
      clear hρ hF hcst hfun sl0 sl3 sl5 sl8 fin
      exact opv_val (by go_simp <;> rfl) ⟨gw_self _, rfl⟩
    · refine owes_v (Go.Op.call { callee := Go.Callee.value (Go.Operand.func 47), args := #[Go.Operand.tmp 42, Go.Operand.tmp 55], argTypes := #[62, 68] }) 4 [0, 13] (by kernel_rfl) (by kernel_rfl) (by kernel_rfl) rfl fun vals w1 ρ hG hF hρ hcst hfun => ?_
      have e42 : ρ (.tmp 42) = .slice B N cl := ((hρ 42).trans (slotJ [0, 13] (by rw [hsz]; decide) (by kernel_rfl))).trans (hF 0 (by decide))
      have e55 : ρ (.tmp 55) = .int .u64 (U64 x) := ((hρ 55).trans (slotJ [0, 13] (by rw [hsz]; decide) (by kernel_rfl))).trans (hF 13 (by decide))
      clear hρ hF hcst sl0 sl3 sl5 sl8 fin
      exact opv_enter (by go_simp <;> rfl) (of_ret (hp.out w1 hG))
    · refine owes_v (Go.Op.unOp Go.UnOp.not 4 (Go.Operand.tmp 56)) 4 [14] (by kernel_rfl) (by kernel_rfl) (by kernel_rfl) rfl fun vals w1 ρ hG hF hρ hcst hfun => ?_
      have e56 : ρ (.tmp 56) = .bool r := ((hρ 56).trans (slotJ [14] (by rw [hsz]; decide) (by kernel_rfl))).trans (hF 14 (by decide))
      clear hρ hF hcst hfun sl0 sl3 sl5 sl8 fin
      exact opv_val (by go_simp <;> rfl) ⟨gw_self _, rfl⟩
  · intro vals w1 hG hF
    exact fin vals w1 hG (hF 15 (by decide +kernel))
theorem rw13 (Q : Exit → Act → World → Prop) (a0 : Act) (w : World) (R a i N g : Nat) (B : Option Addr) (cl : Nat) (P n : Int) (r : Bool) (ad2 : Addr) (hB : B = some ad2) (hlt : (ad2.add i).block < w.heap.size) (cl1 : w.cell? (ad2.add i) = some (.int .i64 (a : Int))) (q0 : (0 : Int) ≤ (i : Int)) (q1 : (i : Int) < (N : Int)) (hg : g < w.heap.size) (g0 : w.cell? ⟨g, 0, none⟩ = some (.int .i64 P)) (g1 : w.cell? ⟨g, 1, none⟩ = some (.int .i64 n)) (g2 : w.cell? ⟨g, 2, none⟩ = some (.bool false)) (g3 : w.cell? ⟨g, 3, none⟩ = some (.int .i64 0)) (hp : Hid (∀ W, Below w.heap.size w W → Calls Tryd.prog 48 #[.pointer (some ⟨R, 0, none⟩), .int .i64 (a : Int), .agg #[.int .i64 P, .int .i64 n, .bool false, .int .i64 0]] W (RetP (.bool r) W))) (hsz : a0.tmps.size = 65) (sl0 : a0.tmps.getD 0 undef = .pointer (some ⟨R, 0, none⟩)) (sl3 : a0.tmps.getD 3 undef = .slice B N cl) (sl5 : a0.tmps.getD 5 undef = .int .i64 (i : Int)) (sl6 : a0.tmps.getD 6 undef = .pointer (some ⟨g, 0, none⟩))
    (fin : ∀ (vals : Nat → Value) (w1 : World), Below w.heap.size w w1 → (IsV (.bool r)) (vals 6) w1 → Q .normal (putD vals [58, 59, 60, 61, 62, 63, 64] 0 a0) w1) :
    (Code.region 13 (regIn Tryd.f19 13) true).wp Tryd.prog Q a0 w := by
  refine region_by (G := fun w w1 => Below w.heap.size w w1) [IsV (.pointer (some ⟨R, 0, none⟩)),
    IsV (.slice B N cl),
    IsV (.int .i64 (i : Int)),
    IsV (.pointer (some (ad2.add i))),
    IsV (.int .i64 (a : Int)),
    IsV (.agg #[.int .i64 P, .int .i64 n, .bool false, .int .i64 0]),
    IsV (.bool r)]
    [58, 59, 60, 61, 62, 63, 64] (by kernel_rfl) (Gw.drew _) Gw.trans (by rw [hsz]; kernel_rfl) (by kernel_rfl) ?_ ?_ ?_
  · intro f hf
    simp only [List.mem_cons, List.not_mem_nil, or_false] at hf
    rcases hf with rfl | rfl | rfl | rfl | rfl | rfl | rfl <;> intro v a b h g <;> first | exact IsV.mono h
  · refine ⟨?_, ?_, ?_, ?_, ?_, ?_, ?_, trivial⟩
    · exact owes_mv 0 (by kernel_rfl) (by kernel_rfl) (by kernel_rfl) sl0 (fun _ => rfl)
    · exact owes_mv 3 (by kernel_rfl) (by kernel_rfl) (by kernel_rfl) sl3 (fun _ => rfl)
    · exact owes_mv 5 (by kernel_rfl) (by kernel_rfl) (by kernel_rfl) sl5 (fun _ => rfl)
    · refine owes_v (Go.Op.indexAddr 62 (Go.Operand.tmp 59) (Go.Operand.tmp 60)) 0 [1, 2] (by kernel_rfl) (by kernel_rfl) (by kernel_rfl) rfl fun vals w1 ρ hG hF hρ hcst hfun => ?_
      have e59 : ρ (.tmp 59) = .slice B N cl := ((hρ 59).trans (slotJ [1, 2] (by rw [hsz]; decide) (by kernel_rfl))).trans (hF 1 (by decide))
      have e60 : ρ (.tmp 60) = .int .i64 (i : Int) := ((hρ 60).trans (slotJ [1, 2] (by rw [hsz]; decide) (by kernel_rfl))).trans (hF 2 (by decide))
      subst hB
      clear hρ hF hcst hfun sl0 sl3 sl5 sl6 fin
      exact opv_val (by go_simp <;> rfl) ⟨gw_self _, rfl⟩
    · refine owes_v (Go.Op.load 3 (Go.Operand.tmp 61)) 3 [3] (by kernel_rfl) (by kernel_rfl) (by kernel_rfl) rfl fun vals w1 ρ hG hF hρ hcst hfun => ?_
      have e61 : ρ (.tmp 61) = .pointer (some (ad2.add i)) := ((hρ 61).trans (slotJ [3] (by rw [hsz]; decide) (by kernel_rfl))).trans (hF 3 (by decide))
      have k := (hG.cell (p := ad2.add i) hlt).trans cl1
      clear hρ hF hcst hfun sl0 sl3 sl5 sl6 fin
      exact opv_val (by go_simp <;> rfl) ⟨gw_self _, rfl⟩
    · refine owes_v (Go.Op.load 74 (Go.Operand.tmp 6)) 74 [] (by kernel_rfl) (by kernel_rfl) (by kernel_rfl) rfl fun vals w1 ρ hG hF hρ hcst hfun => ?_
      have e6 : ρ (.tmp 6) = .pointer (some ⟨g, 0, none⟩) := ((hρ 6).trans (slotO [] (by kernel_rfl))).trans sl6
      have k0 := (hG.cell (p := ⟨g, 0, none⟩) hg).trans g0; have k1 := (hG.cell (p := ⟨g, 1, none⟩) hg).trans g1; have k2 := (hG.cell (p := ⟨g, 2, none⟩) hg).trans g2; have k3 := (hG.cell (p := ⟨g, 3, none⟩) hg).trans g3
      clear hρ hF hcst hfun sl0 sl3 sl5 sl6 fin
      exact opv_val (by go_simp <;> rfl) ⟨gw_self _, rfl⟩
    · refine owes_v (Go.Op.call { callee := Go.Callee.value (Go.Operand.func 48), args := #[Go.Operand.tmp 58, Go.Operand.tmp 62, Go.Operand.tmp 63], argTypes := #[27, 3, 74] }) 4 [0, 4, 5] (by kernel_rfl) (by kernel_rfl) (by kernel_rfl) rfl fun vals w1 ρ hG hF hρ hcst hfun => ?_
      have e58 : ρ (.tmp 58) = .pointer (some ⟨R, 0, none⟩) := ((hρ 58).trans (slotJ [0, 4, 5] (by rw [hsz]; decide) (by kernel_rfl))).trans (hF 0 (by decide))
      have e62 : ρ (.tmp 62) = .int .i64 (a : Int) := ((hρ 62).trans (slotJ [0, 4, 5] (by rw [hsz]; decide) (by kernel_rfl))).trans (hF 4 (by decide))
      have e63 : ρ (.tmp 63) = .agg #[.int .i64 P, .int .i64 n, .bool false, .int .i64 0] := ((hρ 63).trans (slotJ [0, 4, 5] (by rw [hsz]; decide) (by kernel_rfl))).trans (hF 5 (by decide))
      clear hρ hF hcst sl0 sl3 sl5 sl6 fin
      exact opv_enter (by go_simp <;> rfl) (of_ret (hp.out w1 hG))
  · intro vals w1 hG hF
    exact fin vals w1 hG (hF 6 (by decide +kernel))
end Go.Proofs.YtfodefgihicafaaDoor
/- A region that keeps its order, by a fact for each of its operations. No conditions. -/
namespace Go.Proofs.YtfodefgihicafaaDoor
set_option linter.unusedVariables false
set_option linter.unusedSimpArgs false
open Go.RowKit
section
variable {P : Program} {ops : Array Oper} {Q : Exit → Act → World → Prop} {G : World → World → Prop} {F : Nat → Value → World → Prop} {a0 : Act} {w0 : World}
end
section
variable {P : Program} {ops : Array Oper} {Q : Exit → Act → World → Prop} {F : Nat → Value → World → Prop} {a0 : Act} {w0 : World}
end
/-- A region's operations from the k-th on, each of which waits for all that stand ahead of it. -/
def cutOps (k : Nat) (ops : Array Oper) : List Oper := ops.toList.drop k
def fullO (k : Nat) (p : Oper × Nat) : Oper := { p.1 with guard := p.1.guard.map fun g => (g.1 - k, g.2), after := ((List.range p.2).map fun j => ({ on := j, ground := .data } : Edge)).toArray }
def fullOps (k : Nat) (ops : Array Oper) : Array Oper := ((cutOps k ops).zipIdx.map (fullO k)).toArray
def cutB (k : Nat) (ops : Array Oper) : Bool := (cutOps k ops).all fun o => match o.guard with | none => true | some g => decide (k ≤ g.1)
end Go.Proofs.YtfodefgihicafaaDoor
/- A region that draws its order, some of whose operations store into boxes that it makes: by a fact for each operation. No conditions. -/
namespace Go.Proofs.YtfodefgihicafaaDoor
set_option linter.unusedVariables false
set_option linter.unusedSimpArgs false
open Go.RowKit
section
variable {P : Program} {ops : Array Oper} {Q : Exit → Act → World → Prop} {G D : World → World → Prop} {F : Nat → Value → World → Prop} {a0 : Act} {w0 : World} {src : Nat → Nat}
/-- Each operation has a slot of its own, or none; it waits for elder ones alone; none defers. -/
def regGB (ops : Array Oper) (size : Nat) : Bool :=
  (List.range ops.size).all fun i => match ops[i]? with
    | none => false
    | some o =>
      (match o.dst with
       | none => true
       | some d => decide (d < size) && (List.range ops.size).all fun j => j == i || dstOf ops j != some d) &&
      (o.after.all fun e => !Region.binds .any e || decide (e.on < i)) &&
      (match o.op with | .defer _ => false | .select .. => false | _ => true)
def srcB (ops : Array Oper) (src : Nat → Nat) : Bool :=
  (List.range ops.size).all fun i => (src i == i && (dstOf ops i).isSome) || ((dstOf ops i).isNone && waitsB ops i (src i) && (dstOf ops (src i)).isSome)
/-- What operation i owes: its fact, of what it leaves, or of what another has left, and what it turns. -/
def OwesG (P : Program) (ops : Array Oper) (Q : Exit → Act → World → Prop) (G D : World → World → Prop) (F : Nat → Value → World → Prop) (src : Nat → Nat) (a0 : Act) (w0 : World) (i : Nat) : Prop :=
  ∀ (a : Act) (w : World), G w0 w → a.defers = a0.defers → a.tmps.size = a0.tmps.size →
    (∀ j, waitsB ops i j = true → src j = j → F j (valAt ops a j) w) →
    (∀ t, (∀ j, dstOf ops j = some t → waitsB ops j i = true) → a.tmps.getD t undef = a0.tmps.getD t undef) →
    wpOp P ops Q i (fun a' w' => ∃ v, a' = a.put (dstOf ops i) v ∧ D w w' ∧ F i (if src i = i then v else valAt ops a (src i)) w') a w
theorem regGB_at {size : Nat} (h : regGB ops size = true) {i : Nat} (hi : i < ops.size) : ∃ o, ops[i]? = some o ∧ (∀ d, o.dst = some d → d < size ∧ (∀ j, j < ops.size → j ≠ i → dstOf ops j ≠ some d)) ∧ (∀ e ∈ o.after, Region.binds .any e = true → e.on < i) := by
  unfold regGB at h
  rw [List.all_eq_true] at h
  have h1 := h i (List.mem_range.2 hi)
  cases ho : ops[i]? with
  | none => rw [ho] at h1; cases h1
  | some o =>
    rw [ho] at h1
    simp only [Bool.and_eq_true] at h1
    obtain ⟨⟨h1, h2⟩, _⟩ := h1
    refine ⟨o, rfl, fun d hd => ?_, fun e he hb => ?_⟩
    · rw [hd] at h1
      simp only [Bool.and_eq_true, decide_eq_true_eq, List.all_eq_true, List.mem_range, Bool.or_eq_true, beq_iff_eq, bne_iff_ne] at h1
      refine ⟨h1.1, fun j hj hne => ?_⟩
      rcases h1.2 j hj with h | h
      · exact absurd h hne
      · exact h
    · have := Array.all_eq_true_iff_forall_mem.1 h2 e he
      simpa [hb] using this
/-- What operation i owes, at the very state: its fact, of whatever it leaves. -/
def OwesD (P : Program) (ops : Array Oper) (Q : Exit → Act → World → Prop) (G D : World → World → Prop) (F : Nat → Value → World → Prop) (a0 : Act) (w0 : World) (i : Nat) : Prop :=
  ∀ (a : Act) (w : World), G w0 w → a.defers = a0.defers → a.tmps.size = a0.tmps.size →
    (∀ j, waitsB ops i j = true → F j (valAt ops a j) w) →
    (∀ t, (∀ j, dstOf ops j = some t → waitsB ops j i = true) → a.tmps.getD t undef = a0.tmps.getD t undef) →
    wpOp P ops Q i (fun a' w' => ∃ v, a' = a.put (dstOf ops i) v ∧ D w w' ∧ F i v w') a w

/-- An operation that runs whatever comes: by the operations js that it waits for. -/
theorem owes_ofD {i : Nat} {o : Oper} (js : List Nat) (ho : ops[i]? = some o) (hg : o.guard = none) (hsee : seesB ops i js = true)
    (hnd : match o.op with | .defer _ => False | .select .. => False | _ => True)
    (h : ∀ (vals : Nat → Value) (w : World), G w0 w → (∀ j ∈ js, F j (vals j) w) → ∀ K : Act → World → Prop, (∀ v w', D w w' → F i v w' → K ((putL ops vals js a0).put o.dst v) w') →
      Oper.wp P o (putL ops vals js a0) w K NoQ) : OwesD P ops Q G D F a0 w0 i := by
  intro a w hG hd hs hF hR
  unfold wpOp
  rw [ho]
  simp only [Region.wanted, hg, if_true]
  left
  have hsee' : (js.all (fun j => waitsB ops i j) = true) ∧ ∀ t ∈ (o.op.operands.toList.filterMap fun | .tmp t => some t | _ => none), js.any (fun j => dstOf ops j == some t) = true ∨ (List.range ops.size).all (fun j => dstOf ops j != some t || waitsB ops j i) = true := by
    unfold seesB at hsee
    rw [ho] at hsee
    simp only [Bool.and_eq_true, List.all_eq_true, Bool.or_eq_true] at hsee
    refine ⟨by rw [List.all_eq_true]; exact hsee.1, fun t ht => ?_⟩
    rcases hsee.2 t ht with h | h
    · exact .inl h
    · right; rw [List.all_eq_true]; simpa using h
  have hjs : ∀ j ∈ js, waitsB ops i j = true := List.all_eq_true.1 hsee'.1
  have ht : ∀ t ∈ (o.op.operands.toList.filterMap fun | .tmp t => some t | _ => none), a0.tmps.getD t undef = a.tmps.getD t undef ∨ ∃ j ∈ js, dstOf ops j = some t := by
    intro t ht
    rcases hsee'.2 t ht with h | h
    · right
      rw [List.any_eq_true] at h
      obtain ⟨j, hj, e⟩ := h
      exact ⟨j, hj, by simpa using e⟩
    · left
      refine (hR t fun j hj => ?_).symm
      rw [List.all_eq_true] at h
      have hlt : j < ops.size := by
        rcases Nat.lt_or_ge j ops.size with hl | hl
        · exact hl
        · unfold dstOf at hj; rw [Array.getElem?_eq_none hl] at hj; cases hj
      have := h j (List.mem_range.2 hlt)
      simpa [hj] using this
  have he : execOp (putL ops (valAt ops a) js a0).eval o = execOp a.eval o := by
    refine execOp_congr o (fun cs b e => by rw [e] at hnd; exact hnd) fun x hx => ?_
    cases x with
    | tmp t =>
      show (putL ops (valAt ops a) js a0).tmps.getD t undef = a.tmps.getD t undef
      exact putL_at a t js a0 hs.symm (ht t (List.mem_filterMap.2 ⟨.tmp t, by simpa using hx, rfl⟩))
    | _ => rfl
  have hsz : a.tmps.size = (putL ops (valAt ops a) js a0).tmps.size := by rw [putL_size, hs]
  have hdo : dstOf ops i = o.dst := by unfold dstOf; rw [ho]; rfl
  rw [hdo]
  refine wp_same (K1 := fun A' w' => ∃ v, A' = (putL ops (valAt ops a) js a0).put o.dst v ∧ D w w' ∧ F i v w') he hsz hnd ?_ ?_
  · exact h (valAt ops a) w hG (fun j hj => hF j (hjs j hj)) _ (fun v w' g f => ⟨v, rfl, v, rfl, g, f⟩)
  · rintro v w' ⟨v', e, g, f⟩
    exact ⟨v', put_eq e hsz, g, f⟩

theorem owes_vD {i : Nat} (op : Op) (type : TypeId) (js : List Nat) (ho : (ops[i]?).map (fun o => (o.op, o.type)) = some (op, type)) (hg : (ops[i]?).bind (·.guard) = none) (hsee : seesB ops i js = true)
    (hnd : callsB op = true)
    (h : ∀ (vals : Nat → Value) (w : World) (ρ : Operand → Value), G w0 w → (∀ j ∈ js, F j (vals j) w) → (∀ t, ρ (.tmp t) = (putL ops vals js a0).tmps.getD t undef) → (∀ c, ρ (.const c) = c) → (∀ f, ρ (.func f) = .func (.func f) #[] #[]) →
      OpV P op type ρ w fun v w' => D w w' ∧ F i v w') : OwesD P ops Q G D F a0 w0 i := by
  obtain ⟨o, h1, h2, h3⟩ := isOp_mk ho
  subst h2 h3
  rw [h1] at hg
  exact owes_ofD js h1 hg hsee (by revert hnd; cases o.op <;> simp [callsB]) fun vals w hG hF K hK => opv_wp (h vals w (putL ops vals js a0).eval hG hF (fun t => rfl) (fun c => rfl) (fun f => rfl)) fun v w' hr => hK v w' hr.1 hr.2
/-- A copy of a slot that is as it was. -/
theorem owes_mvD (hD : ∀ w, D w w) {i : Nat} (t : Tmp) {c : Value} (ho : ((ops[i]?).map fun o => copies t o.op) = some true) (hg : (ops[i]?).bind (·.guard) = none) (hsee : seesB ops i [] = true) (hv : a0.tmps.getD t undef = c) (hF : ∀ w, F i c w) :
    OwesD P ops Q G D F a0 w0 i := by
  cases hi : ops[i]? with
  | none => rw [hi] at ho; cases ho
  | some o =>
    rw [hi] at ho
    simp only [Option.map_some, Option.some.injEq] at ho
    refine owes_vD o.op o.type [] (by rw [hi]; rfl) hg hsee (by revert ho; cases o.op <;> simp [copies, callsB]) fun vals w ρ hG hF' hρ hc hf => ?_
    exact opv_val (copies_run ho) ⟨hD _, by rw [hρ t]; show F i (a0.tmps.getD t undef) w; rw [hv]; exact hF w⟩
/-- A copy of what operation j leaves. -/
theorem owes_mvjD (hD : ∀ w, D w w) {i : Nat} (j : Nat) (t : Tmp) (ho : ((ops[i]?).map fun o => copies t o.op) = some true) (hg : (ops[i]?).bind (·.guard) = none) (hsee : seesB ops i [j] = true) (hd : dstOf ops j = some t) (hl : t < a0.tmps.size) (hF : ∀ v w, F j v w → F i v w) :
    OwesD P ops Q G D F a0 w0 i := by
  cases hi : ops[i]? with
  | none => rw [hi] at ho; cases ho
  | some o =>
    rw [hi] at ho
    simp only [Option.map_some, Option.some.injEq] at ho
    refine owes_vD o.op o.type [j] (by rw [hi]; rfl) hg hsee (by revert ho; cases o.op <;> simp [copies, callsB]) fun vals w ρ hG hF' hρ hc hf => ?_
    refine opv_val (copies_run ho) ⟨hD _, ?_⟩
    rw [hρ t]
    unfold putL putL
    rw [hd, put_same _ _ _ hl]
    exact hF _ _ (hF' j (.head _))

/-- An operation with a slot of its own. -/
theorem OwesG.mk {i : Nat} (hs0 : src i = i) (hsw : ∀ j, waitsB ops i j = true → src j = j) (h : OwesD P ops Q G D F a0 w0 i) : OwesG P ops Q G D F src a0 w0 i := by
  intro a w hG hd hs hF hR
  refine wpOp_mono ?_ (h a w hG hd hs (fun j hj => hF j hj (hsw j hj)) hR)
  rintro a' w' ⟨v, e, hg, hf⟩
  exact ⟨v, e, hg, by rw [if_pos hs0]; exact hf⟩
/-- An operation without a slot, whose fact is of what another has left. -/
theorem OwesG.store {i : Nat} {o : Oper} (js : List Nat) (ho : ops[i]? = some o) (hg : o.guard = none) (hdn : o.dst = none) (hs0 : src i ≠ i) (hmem : src i ∈ js) (hjs : ∀ j ∈ js, src j = j) (hsee : seesB ops i js = true)
    (hnd : match o.op with | .defer _ => False | .select .. => False | _ => True)
    (h : ∀ (vals : Nat → Value) (w : World), G w0 w → (∀ j ∈ js, F j (vals j) w) → ∀ K : Act → World → Prop, (∀ v w', D w w' → F i (vals (src i)) w' → K ((putL ops vals js a0).put o.dst v) w') →
      Oper.wp P o (putL ops vals js a0) w K NoQ) : OwesG P ops Q G D F src a0 w0 i := by
  intro a w hG hd hs hF hR
  unfold wpOp
  rw [ho]
  simp only [Region.wanted, hg, if_true]
  left
  have hsee' : (js.all (fun j => waitsB ops i j) = true) ∧ ∀ t ∈ (o.op.operands.toList.filterMap fun | .tmp t => some t | _ => none), js.any (fun j => dstOf ops j == some t) = true ∨ (List.range ops.size).all (fun j => dstOf ops j != some t || waitsB ops j i) = true := by
    unfold seesB at hsee
    rw [ho] at hsee
    simp only [Bool.and_eq_true, List.all_eq_true, Bool.or_eq_true] at hsee
    refine ⟨by rw [List.all_eq_true]; exact hsee.1, fun t ht => ?_⟩
    rcases hsee.2 t ht with h | h
    · exact .inl h
    · right; rw [List.all_eq_true]; simpa using h
  have hjs2 : ∀ j ∈ js, waitsB ops i j = true := List.all_eq_true.1 hsee'.1
  have ht : ∀ t ∈ (o.op.operands.toList.filterMap fun | .tmp t => some t | _ => none), a0.tmps.getD t undef = a.tmps.getD t undef ∨ ∃ j ∈ js, dstOf ops j = some t := by
    intro t ht
    rcases hsee'.2 t ht with h | h
    · right
      rw [List.any_eq_true] at h
      obtain ⟨j, hj, e⟩ := h
      exact ⟨j, hj, by simpa using e⟩
    · left
      refine (hR t fun j hj => ?_).symm
      rw [List.all_eq_true] at h
      have hlt : j < ops.size := by
        rcases Nat.lt_or_ge j ops.size with hl | hl
        · exact hl
        · unfold dstOf at hj; rw [Array.getElem?_eq_none hl] at hj; cases hj
      have := h j (List.mem_range.2 hlt)
      simpa [hj] using this
  have he : execOp (putL ops (valAt ops a) js a0).eval o = execOp a.eval o := by
    refine execOp_congr o (fun cs b e => by rw [e] at hnd; exact hnd) fun x hx => ?_
    cases x with
    | tmp t =>
      show (putL ops (valAt ops a) js a0).tmps.getD t undef = a.tmps.getD t undef
      exact putL_at a t js a0 hs.symm (ht t (List.mem_filterMap.2 ⟨.tmp t, by simpa using hx, rfl⟩))
    | _ => rfl
  have hsz : a.tmps.size = (putL ops (valAt ops a) js a0).tmps.size := by rw [putL_size, hs]
  have hdo : dstOf ops i = o.dst := by unfold dstOf; rw [ho]; rfl
  rw [hdo]
  refine wp_same (K1 := fun A' w' => ∃ v, A' = (putL ops (valAt ops a) js a0).put o.dst v ∧ D w w' ∧ F i (valAt ops a (src i)) w') he hsz hnd ?_ ?_
  · exact h (valAt ops a) w hG (fun j hj => hF j (hjs2 j hj) (hjs j hj)) _ (fun v w' g f => ⟨v, rfl, v, rfl, g, f⟩)
  · rintro v w' ⟨v', e, g, f⟩
    exact ⟨v', put_eq e hsz, g, by rw [if_neg hs0]; exact f⟩

theorem OwesG.weak {i : Nat} {Pr : World → Prop} (h : OwesG P ops Q G D F src a0 w0 i) : OwesG P ops Q (fun w w' => G w w' ∧ Pr w') D F src a0 w0 i := fun a w hG hd hs hF hR => h a w hG.1 hd hs hF hR
theorem region_factsG {id : Nat} {DD : Nat → World → World → Prop} (Pre : Nat → World → Prop) (hpre0 : ∀ i, i < ops.size → Pre i w0.drew) (hpres : ∀ i k, i < ops.size → k < ops.size → k ≠ i → ∀ a b, G w0 a → Pre k a → DD i a b → Pre k b) (hm : P.follows .mixedOrders = true) (hrefl : G w0 w0.drew) (htrans : ∀ i, i < ops.size → ∀ a b, G w0 a → DD i a b → G w0 b) (hmono : ∀ i j, i < ops.size → j < ops.size → i ≠ j → ∀ v a b, F j v a → DD i a b → F j v b)
    (hreg : regGB ops a0.tmps.size = true) (hsrc : srcB ops src = true) (howes : ∀ i, i < ops.size → OwesG P ops Q (fun w w' => G w w' ∧ Pre i w') (DD i) F src a0 w0 i)
    (fin : ∀ (vals : Nat → Value) (w : World), G w0 w → (∀ j, j < ops.size → F j (vals (src j)) w) → Q .normal (putL ops vals (List.range ops.size) a0) w) :
    (Code.region id ops true).wp P Q a0 w0 := by
  have main : ∀ (fuel : Nat) (listed : Array Bool) (a : Act) (w : World), listed.size = ops.size →
      ((List.range ops.size).filter fun j => !listed.getD j true).length ≤ fuel →
      G w0 w → (∀ j, j < ops.size → listed.getD j true = false → Pre j w) → a.defers = a0.defers → a.tmps.size = a0.tmps.size →
      (∀ j, j < ops.size → listed.getD j true = true → F j (valAt ops a (src j)) w) →
      (∀ t, (∀ j, j < ops.size → listed.getD j true = true → dstOf ops j ≠ some t) → a.tmps.getD t undef = a0.tmps.getD t undef) →
      (∀ j, j < ops.size → listed.getD j true = true → ∀ k, waitsB ops j k = true → listed.getD k false = true) →
      wpAny P .any ops Q fuel listed a w := by
    intro fuel
    -- where nothing may come up all has come up
    have allUp : ∀ (listed : Array Bool), listed.size = ops.size → Region.ready .any ops listed = [] → ∀ j, j < ops.size → listed.getD j true = true := by
      intro listed hsz hr j
      induction j using Nat.strongRecOn with
      | ind j ih =>
        intro hj
        cases hl : listed.getD j true with
        | true => rfl
        | false =>
          exfalso
          obtain ⟨o, ho, _, he⟩ := regGB_at hreg hj
          have : j ∈ Region.ready .any ops listed := mem_ready.2 ⟨hl, o, ho, fun e hem hb => by
            have hlt := he e hem hb
            have := ih e.on hlt (by omega)
            rw [Array.getD_eq_getD_getElem?] at this ⊢
            rw [Array.getElem?_eq_getElem (by omega)] at this ⊢
            exact this⟩
          rw [hr] at this
          cases this
    have done : ∀ (listed : Array Bool) (a : Act) (w : World), (∀ j, j < ops.size → listed.getD j true = true) → G w0 w → a.defers = a0.defers → a.tmps.size = a0.tmps.size →
        (∀ j, j < ops.size → listed.getD j true = true → F j (valAt ops a (src j)) w) →
        (∀ t, (∀ j, j < ops.size → listed.getD j true = true → dstOf ops j ≠ some t) → a.tmps.getD t undef = a0.tmps.getD t undef) → Q .normal a w := by
      intro listed a w hall hG hd hs hF hR
      have := fin (valAt ops a) w hG (fun j hj => hF j hj (hall j hj))
      rw [putL_whole a (List.range ops.size) a0 hs.symm hd.symm] at this
      · exact this
      · intro t
        by_cases e : ∃ j, j < ops.size ∧ dstOf ops j = some t
        · obtain ⟨j, hj, hjd⟩ := e
          exact .inr ⟨j, List.mem_range.2 hj, hjd⟩
        · left
          exact (hR t fun j hj _ he => e ⟨j, hj, he⟩).symm
    induction fuel with
    | zero =>
      intro listed a w hsz hcnt hG hPre hd hs hF hR hC
      have hall : ∀ j, j < ops.size → listed.getD j true = true := by
        intro j hj
        cases hl : listed.getD j true with
        | true => rfl
        | false =>
          have : j ∈ (List.range ops.size).filter fun j => !listed.getD j true := List.mem_filter.2 ⟨List.mem_range.2 hj, by simp only [hl]; rfl⟩
          rw [List.eq_nil_of_length_eq_zero (Nat.le_zero.1 hcnt)] at this
          cases this
      refine ⟨?_, done listed a w hall hG hd hs hF hR⟩
      apply List.eq_nil_iff_forall_not_mem.2
      intro j hj
      obtain ⟨h1, o, ho, _⟩ := mem_ready.1 hj
      have hlt : j < ops.size := (Array.getElem?_eq_some_iff.1 ho).1
      rw [hall j hlt] at h1
      cases h1
    | succ fuel ih =>
      intro listed a w hsz hcnt hG hPre hd hs hF hR hC
      refine ⟨fun hr => done listed a w (allUp listed hsz hr) hG hd hs hF hR, fun i hi => ?_⟩
      obtain ⟨hun, o, ho, hall⟩ := mem_ready.1 hi
      have hlt : i < ops.size := (Array.getElem?_eq_some_iff.1 ho).1
      have hlz : i < listed.size := by omega
      have hw : ∀ j, waitsB ops i j = true → j < ops.size ∧ listed.getD j true = true := by
        intro j hj
        obtain ⟨o', ho', e, he, hb, rfl⟩ := waits_some hj
        rw [ho] at ho'
        injection ho' with ho'
        subst ho'
        have h1 := hall e he hb
        rw [Array.getD_eq_getD_getElem?] at h1
        rcases Nat.lt_or_ge e.on listed.size with hl | hl
        · refine ⟨by omega, ?_⟩
          rw [Array.getD_eq_getD_getElem?]
          rw [Array.getElem?_eq_getElem hl] at h1 ⊢
          exact h1
        · rw [Array.getElem?_eq_none hl] at h1; cases h1
      have hstep := howes i hlt a w ⟨hG, hPre i hlt hun⟩ hd hs (fun j hj hsj => by have h1 := hF j (hw j hj).1 (hw j hj).2; rw [hsj] at h1; exact h1) (fun t ht => hR t fun j hj hl he => by
        have h1 := hC j hj hl i (ht j he)
        rw [Array.getD_eq_getD_getElem?, Array.getElem?_eq_getElem hlz] at h1 hun
        simp only [Option.getD_some] at h1 hun
        rw [h1] at hun; cases hun)
      refine wpOp_mono ?_ hstep
      rintro a' w' ⟨v, rfl, hg, hf⟩
      have hset : ∀ j b, (listed.setIfInBounds i true).getD j b = if j = i then true else listed.getD j b := by
        intro j b
        rw [Array.getD_eq_getD_getElem?, Array.getD_eq_getD_getElem?, Array.getElem?_setIfInBounds]
        by_cases e : i = j
        · subst e; simp [hlz]
        · rw [if_neg e, if_neg (fun h => e h.symm)]
      obtain ⟨o2, ho2, hd2, _⟩ := regGB_at hreg hlt
      have hdo : dstOf ops i = o2.dst := by unfold dstOf; rw [ho2]; rfl
      have hput : ∀ k, k < ops.size → k ≠ i → valAt ops (a.put (dstOf ops i) v) k = valAt ops a k := by
        intro k hk hne
        unfold valAt
        cases hkd : dstOf ops k with
        | none => rfl
        | some dk =>
          simp only
          refine put_other _ _ _ _ fun h => ?_
          exact (hd2 dk (by rw [← hdo]; exact h)).2 k hk hne hkd
      have hsr : ∀ k, k < ops.size → (src k = k ∧ (dstOf ops k).isSome = true) ∨ (dstOf ops k = none ∧ waitsB ops k (src k) = true ∧ (dstOf ops (src k)).isSome = true) := by
        intro k hk
        unfold srcB at hsrc
        rw [List.all_eq_true] at hsrc
        have := hsrc k (List.mem_range.2 hk)
        simp only [Bool.or_eq_true, Bool.and_eq_true, beq_iff_eq, Option.isNone_iff_eq_none] at this
        rcases this with h | h
        · exact .inl h
        · exact .inr ⟨h.1.1, h.1.2, h.2⟩
      refine ih (listed.setIfInBounds i true) (a.put (dstOf ops i) v) w' (by simp [hsz]) ?_ (htrans i hlt _ _ hG hg) (fun j hj hl => by
        by_cases e : j = i
        · rw [hset, if_pos e] at hl; cases hl
        · rw [hset, if_neg e] at hl
          exact hpres i j hlt hj e _ _ hG (hPre j hj hl) hg) (by rw [← hd]; cases dstOf ops i <;> rfl) (by rw [put_size, hs]) ?_ ?_ ?_
      · have := filter_less (p := fun j => !listed.getD j true) (q := fun j => !(listed.setIfInBounds i true).getD j true) (i := i) (l := List.range ops.size) (fun x hx => by
          rw [hset] at hx
          by_cases e : x = i
          · rw [if_pos e] at hx; cases hx
          · rw [if_neg e] at hx; exact hx) (List.mem_range.2 hlt) (by rw [hun]; rfl) (by rw [hset, if_pos rfl]; rfl)
        omega
      · intro j hj hl
        by_cases e : j = i
        · subst e
          rcases hsr j hj with ⟨h1, h2⟩ | ⟨h1, h2, h3⟩
          · rw [if_pos h1] at hf
            rw [h1]
            obtain ⟨d, hdj⟩ := Option.isSome_iff_exists.1 h2
            have h3 : valAt ops (a.put (dstOf ops j) v) j = v := by
              unfold valAt
              rw [hdj]
              simp only
              exact put_same _ _ _ (by rw [hs]; exact (hd2 d (by rw [← hdo]; exact hdj)).1)
            rw [h3]
            exact hf
          · have hne : src j ≠ j := fun e => by rw [e, h1] at h3; cases h3
            rw [if_neg hne] at hf
            rw [hput _ (hw _ h2).1 hne]
            exact hf
        · rw [hset, if_neg e] at hl
          have h1 := hmono i j hlt hj (fun h => e h.symm) _ _ _ (hF j hj hl) hg
          have hne : src j ≠ i ∧ src j < ops.size := by
            rcases hsr j hj with ⟨h2, _⟩ | ⟨_, h2, h3⟩
            · rw [h2]; exact ⟨e, hj⟩
            · constructor
              · intro h
                have h4 := hC j hj hl _ h2
                rw [h, Array.getD_eq_getD_getElem?, Array.getElem?_eq_getElem hlz] at h4
                rw [Array.getD_eq_getD_getElem?, Array.getElem?_eq_getElem hlz] at hun
                simp only [Option.getD_some] at h4 hun
                rw [h4] at hun; cases hun
              · rcases Nat.lt_or_ge (src j) ops.size with h | h
                · exact h
                · unfold dstOf at h3; rw [Array.getElem?_eq_none h] at h3; cases h3
          rw [hput _ hne.2 hne.1]
          exact h1
      · intro t ht
        have h1 : dstOf ops i ≠ some t := fun h => ht i hlt (by rw [hset, if_pos rfl]) h
        rw [put_other _ _ _ _ h1]
        exact hR t fun j hj hl => ht j hj (by rw [hset]; split <;> simp_all)
      · intro j hj hl k hk
        rw [hset]
        by_cases e : k = i
        · rw [if_pos e]
        · rw [if_neg e]
          by_cases e2 : j = i
          · subst e2
            have h1 := (hw k hk)
            have h2 : k < listed.size := by omega
            have h3 := h1.2
            rw [Array.getD_eq_getD_getElem?, Array.getElem?_eq_getElem h2] at h3 ⊢
            exact h3
          · rw [hset, if_neg e2] at hl
            exact hC j hj hl k hk
  refine wp_region_any hm ?_
  refine main ops.size (Array.replicate ops.size false) a0 w0.drew (by simp) ?_ hrefl (fun j hj _ => hpre0 j hj) rfl rfl ?_ ?_ ?_
  · exact Nat.le_trans (List.length_filter_le _ _) (by simp)
  · intro j hj hl
    rw [Array.getD_eq_getD_getElem?, Array.getElem?_eq_getElem (by simpa using hj)] at hl
    simp at hl
  · intro t _; rfl
  · intro j hj hl
    rw [Array.getD_eq_getD_getElem?, Array.getElem?_eq_getElem (by simpa using hj)] at hl
    simp at hl
def putO (vals : Nat → Value) : List (Option Tmp) → Nat → Act → Act
  | [], _, a => a
  | d :: ds, k, a => putO vals ds (k + 1) (a.put d (vals k))
theorem putO_eq {ops : Array Oper} (vals : Nat → Value) : ∀ (ds : List (Option Tmp)) (n k : Nat) (a : Act), (List.range' k n).map (dstOf ops) = ds → putL ops vals (List.range' k n) a = putO vals ds k a
  | [], n, k, a, h => by
    have : n = 0 := by simpa using congrArg List.length h
    subst this; rfl
  | d :: ds, 0, k, a, h => by simp at h
  | d :: ds, n + 1, k, a, h => by
    rw [List.range'_succ, List.map_cons] at h
    injection h with h1 h2
    rw [List.range'_succ]
    unfold putL putO
    rw [h1]
    exact putO_eq vals ds n (k + 1) _ h2
def relOf (sts : List (Nat × (World → World → Prop))) (i : Nat) : World → World → Prop := match sts.find? (fun p => p.1 == i) with
  | some p => p.2
  | none => Gw
def srcOf (ss : List (Nat × Nat)) (i : Nat) : Nat := match ss.find? (fun p => p.1 == i) with
  | some p => p.2
  | none => i
theorem region_byG {id : Nat} (Fs : List (Value → World → Prop)) (sts : List (Nat × (World → World → Prop))) (ss : List (Nat × Nat)) (ds : List (Option Tmp))
    (hm : P.follows .mixedOrders = true)
    (hreg : regGB ops a0.tmps.size = true) (hsrc : srcB ops (srcOf ss) = true) (hds : (List.range' 0 ops.size).map (dstOf ops) = ds)
    (hpure : ∀ f ∈ Fs, ∀ v a b, f v a → Gw a b → f v b)
    (hst : ∀ p ∈ sts, (∀ a b, Below w0.heap.size w0 a → p.2 a b → Below w0.heap.size w0 b) ∧ ∀ f ∈ Fs.eraseIdx p.1, ∀ v a b, f v a → p.2 a b → f v b)
    (howes : AllN (fun i => OwesG P ops Q (fun w w' => Below w.heap.size w w') (relOf sts i) (fun j => Fs.getD j fun _ _ => True) (srcOf ss) a0 w0 i) ops.size 0)
    (fin : ∀ (vals : Nat → Value) (w : World), Below w0.heap.size w0 w → (∀ j, j < ops.size → (Fs.getD j fun _ _ => True) (vals (srcOf ss j)) w) → Q .normal (putO vals ds 0 a0) w) :
    (Code.region id ops true).wp P Q a0 w0 := by
  have hrel : ∀ i, relOf sts i = Gw ∨ ∃ p ∈ sts, p.1 = i ∧ relOf sts i = p.2 := by
    intro i
    unfold relOf
    cases h : sts.find? (fun p => p.1 == i) with
    | none => exact .inl rfl
    | some p => exact .inr ⟨p, List.mem_of_find?_eq_some h, by have := List.find?_some h; simpa using this, rfl⟩
  refine region_factsG (G := fun w w' => Below w.heap.size w w') (DD := relOf sts) (src := srcOf ss) (fun _ _ => True) (fun _ _ => trivial) (fun _ _ _ _ _ _ _ _ _ _ => trivial) hm (Gw.drew _) ?_ ?_ hreg hsrc (fun i hi => (howes.at_ _ _ i (by omega) (by omega)).weak) ?_
  · intro i _ a b hG hD
    rcases hrel i with h | ⟨p, hp, _, h⟩
    · rw [h] at hD; exact hG.trans (Below.mono hD hG.size)
    · rw [h] at hD; exact (hst p hp).1 a b hG hD
  · intro i j _ _ hne v a b h g
    rw [List.getD_eq_getElem?_getD] at h ⊢
    cases hj : Fs[j]? with
    | none => exact trivial
    | some f =>
      rw [hj] at h
      rcases hrel i with hr | ⟨p, hp, e, hr⟩
      · rw [hr] at g; exact hpure f (List.mem_of_getElem? hj) v a b h g
      · rw [hr] at g
        refine (hst p hp).2 f ?_ v a b h g
        rw [e]
        refine List.mem_eraseIdx_iff_getElem?.2 ⟨j, fun h => hne h.symm, hj⟩
  · intro vals w hG hF
    rw [List.range_eq_range', putO_eq vals ds ops.size 0 a0 hds]
    exact fin vals w hG hF
/-- A value, and what holds of the world. -/
def AndV (c : Value) (P : World → Prop) (v : Value) (w : World) : Prop := v = c ∧ P w
theorem AndV.mono {c v : Value} {P : World → Prop} {a b : World} (hP : ∀ a b, P a → Gw a b → P b) (h : AndV c P v a) (g : Gw a b) : AndV c P v b := ⟨h.1, hP a b h.2 g⟩
end
end Go.Proofs.YtfodefgihicafaaDoor
/- Stores into boxes that a region makes: the facts, and what such a store owes. No conditions. -/
namespace Go.Proofs.YtfodefgihicafaaDoor
set_option linter.unusedVariables false
set_option linter.unusedSimpArgs false
open Go.RowKit Go.Maps
/-- A box of n cells of type T, made since B. -/
def BoxV (T : TypeId) (n B : Nat) (v : Value) (w : World) : Prop := ∃ k cs, v = .pointer (some ⟨k, 0, none⟩) ∧ B ≤ k ∧ cs.size = n ∧ Bk w k T cs
/-- A box that holds cs. -/
def BoxC (T : TypeId) (cs : Array Value) (B : Nat) (v : Value) (w : World) : Prop := ∃ k, v = .pointer (some ⟨k, 0, none⟩) ∧ B ≤ k ∧ Bk w k T cs
/-- A store into a box of n cells of type T, made since B. -/
def StD (T : TypeId) (n B : Nat) (a b : World) : Prop := ∃ k cs cs', B ≤ k ∧ cs.size = n ∧ cs'.size = n ∧ Bk a k T cs ∧ Bk b k T cs' ∧ Kept (fun c => c = k) a b
theorem grow_below {w : World} {B g : Nat} (hB : B ≤ g) (cs : Array Value) : Below B w (w.setRow g cs) :=
  ⟨rfl, rfl, rfl, by simp, fun k hk => setRow_other w g k cs (by omega)⟩
section
variable {T T' : TypeId} {n n' B B' : Nat} {cs : Array Value} {v c : Value} {a b : World}
theorem BoxV.mono (h : BoxV T n B v a) (g : Gw a b) : BoxV T n B v b := by
  obtain ⟨k, cs, e, h1, h2, h3⟩ := h
  exact ⟨k, cs, e, h1, h2, h3.below g h3.lt⟩
theorem BoxC.mono (h : BoxC T cs B v a) (g : Gw a b) : BoxC T cs B v b := by
  obtain ⟨k, e, h1, h3⟩ := h
  exact ⟨k, e, h1, h3.below g h3.lt⟩
theorem StD.below {B0 : Nat} {w0 : World} (hB : B0 ≤ B) (h : Below B0 w0 a) (hs : B0 ≤ a.heap.size) (g : StD T n B a b) : Below B0 w0 b := by
  obtain ⟨k, _, _, h1, _, _, _, _, h2⟩ := g
  exact h.trans (h2.below hs (fun c e => by omega))
theorem IsV.st (h : IsV c v a) (_ : StD T n B a b) : IsV c v b := h
theorem bk_type {w : World} {k : Nat} {E F : TypeId} {x y : Array Value} (h1 : Bk w k E x) (h2 : Bk w k F y) : E = F ∧ x = y := by
  unfold Bk at h1 h2
  rw [h1] at h2
  injection h2 with h2
  injection h2 with h2 h3 _
  exact ⟨h3, h2⟩
theorem BoxV.st (h : BoxV T' n' B' v a) (g : StD T n B a b) : BoxV T' n' B' v b := by
  obtain ⟨k, x, e, h1, h2, h3⟩ := h
  obtain ⟨k', y, y', _, g2, g3, g4, g5, g6⟩ := g
  by_cases hk : k = k'
  · subst hk
    obtain ⟨e1, e2⟩ := bk_type h3 g4
    subst e1
    exact ⟨k, y', e, h1, by rw [g3, ← g2, ← e2, h2], g5⟩
  · exact ⟨k, x, e, h1, h2, g6.bk h3 hk⟩
theorem BoxC.st (hT : T' ≠ T) (h : BoxC T' cs B' v a) (g : StD T n B a b) : BoxC T' cs B' v b := by
  obtain ⟨k, e, h1, h3⟩ := h
  obtain ⟨k', y, y', _, g2, g3, g4, g5, g6⟩ := g
  refine ⟨k, e, h1, g6.bk h3 fun hk => ?_⟩
  subst hk
  exact hT (bk_type h3 g4).1
end
def LQ (K : Act → World → Prop) : Exit → Act → World → Prop
  | .normal, a, w => K a w
  | _, _, _ => False
theorem wp_of_list {P : Program} {o : Oper} {a : Act} {w : World} {K : Act → World → Prop} (hg : o.guard = none) (h : wpList P #[o] (LQ K) [o] a w) : Oper.wp P o a w K NoQ := by
  unfold wpList at h
  simp only [Region.wanted, hg, if_true] at h
  rcases h with h | ⟨_, h2⟩
  · unfold Oper.wp at h ⊢
    generalize (execOp a.eval o).run P w = r at *
    cases r with
    | ok n w' =>
      cases n <;> simp only [Oper.upon, wpList] at h ⊢
      case value u => exact h
      case skip => exact h
      case defer u => exact h
      case enter f args =>
        refine Calls.mono h fun e w'' he => ?_
        cases e with
        | returned u => exact he
        | panicked c => exact he.elim
        | outgrown => obtain ⟨_, _, hf⟩ := he; exact hf.elim
      case row row args => exact h
    | halt x w' =>
      cases x <;> simp only [Oper.upon] at h ⊢
      case panic u => exact h.elim
  · obtain ⟨_, _, h3⟩ := h2
    exact h3.elim
section
variable {P : Program} {ops : Array Oper} {Q : Exit → Act → World → Prop} {G : World → World → Prop} {F : Nat → Value → World → Prop} {a0 : Act} {w0 : World} {src : Nat → Nat}
theorem OwesG.mk2 {i : Nat} {D : World → World → Prop} {F' : Nat → Value → World → Prop} (hs0 : src i = i) (hF' : ∀ j v w, (src j = j → F j v w) → F' j v w) (hFi : ∀ v w, F' i v w → F i v w) (h : OwesD P ops Q G D F' a0 w0 i) : OwesG P ops Q G D F src a0 w0 i := by
  intro a w hG hd hs hF hR
  refine wpOp_mono ?_ (h a w hG hd hs (fun j hj => hF' j _ _ (hF j hj)) hR)
  rintro a' w' ⟨v, e, hg, hf⟩
  exact ⟨v, e, hg, by rw [if_pos hs0]; exact hFi _ _ hf⟩
theorem owes_box {i jp jv : Nat} {tp tv : Tmp} {T : TypeId} {n B : Nat} {cs : Array Value} {type : TypeId} (ho : (ops[i]?).map (fun o => (o.op, o.type)) = some (.store T (.tmp tp) (.tmp tv), type)) (hg : (ops[i]?).bind (·.guard) = none) (hdn : dstOf ops i = none)
    (hsee : seesB ops i [jp, jv] = true) (hsp : slotB ops [jp, jv] jp tp = true) (hsv : slotB ops [jp, jv] jv tv = true) (hlp : tp < a0.tmps.size) (hlv : tv < a0.tmps.size) (hs0 : src i ≠ i) (hsi : src i = jp) (h1 : src jp = jp) (h2 : src jv = jv)
    (hi : (P.info? T).map (·.size) = some cs.size) (hn : cs.size = n) (h1c : cs.all (·.oneCell') = true)
    (hFp : ∀ v w, F jp v w → BoxV T n B v w) (hFv : ∀ v w, F jv v w → v = .agg cs) (hFi : ∀ v w, BoxC T cs B v w → F i v w) : OwesG P ops Q G (StD T n B) F src a0 w0 i := by
  obtain ⟨o, e1, e2, e3⟩ := isOp_mk ho
  rw [e1] at hg
  have hd2 : o.dst = none := by unfold dstOf at hdn; rw [e1] at hdn; exact hdn
  refine OwesG.store [jp, jv] e1 hg hd2 hs0 (by rw [hsi]; exact .head _) ?_ hsee (by rw [e2]; trivial) fun vals w hG hF K hK => ?_
  · intro j hj
    simp only [List.mem_cons, List.not_mem_nil, or_false] at hj
    rcases hj with rfl | rfl
    · exact h1
    · exact h2
  · obtain ⟨k, old, ev, hB, hold, hbk⟩ := hFp _ _ (hF jp (by simp))
    have ec := hFv _ _ (hF jv (by simp))
    refine wp_of_list hg ?_
    refine wpList_store_row (rest := []) hg T (.tmp tp) (.tmp tv) e2 k cs ?_ ?_ T old hbk hi (by rw [hold, hn]) h1c ?_
    · show (putL ops vals [jp, jv] a0).tmps.getD tp undef = _
      rw [slotJ [jp, jv] hlp hsp, ev]
    · show (putL ops vals [jp, jv] a0).tmps.getD tv undef = _
      rw [slotJ [jp, jv] hlv hsv, ec]
    · show LQ K .normal _ _
      have hnew := setRow_heap w k old cs T (0, 0) hbk
      refine hK _ _ ⟨k, old, cs, hB, hold, hn, hbk, hnew, ?_⟩ ?_
      · exact ⟨(grow_below (Nat.le_refl _) cs).os, (grow_below (Nat.le_refl _) cs).tape, (grow_below (Nat.le_refl _) cs).output, (grow_below (Nat.le_refl _) cs).size, fun c _ hc => setRow_other w k c cs hc⟩
      · rw [hsi, ev]
        exact hFi _ _ ⟨k, rfl, hB, hnew⟩
end
end Go.Proofs.YtfodefgihicafaaDoor
