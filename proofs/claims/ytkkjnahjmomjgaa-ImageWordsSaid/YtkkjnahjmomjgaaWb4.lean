/- Texts joined: MmG ObD ObE ObF PcA CrA DcA RegT2. -/
import Derived.Test.YtkkjnahjmomjgaaWb3
import Derived.Test.YtkkjnahjmomjgaaRegT
import Derived.Test.YtkkjnahjmomjgaaHdL
import Derived.Test.YtkkjnahjmomjgaaRegS
/- mem: SetBytes. Conditions: lengths. -/
namespace Go.Proofs.Ytkkjnahjmomjgaa
set_option linter.unusedVariables false
set_option linter.unusedSimpArgs false
open Go.RowKit
theorem shl255 (s : Nat) : IntKind.u64.wrap (255 * 2 ^ s) = U64 (255#64 <<< s) := shlU64 255#64 s
attribute [local go_sem] shl255 shlU64 andNotU64 orU64 u8_u64 wrapU64
set_option maxHeartbeats 400000
set_option maxRecDepth 100000
theorem sb_reg (Q : Exit → Act → World → Prop) (a0 : Act) (w : World) (g q N c k j s : Nat) (x : BitVec 8) (y : BitVec 64) (hb : Bk w g 108 #[.slice (some ⟨q, 0, none⟩) N c]) (hq : q < w.heap.size) (hy : w.cell? ⟨q, j, none⟩ = some (.int .u64 (U64 y))) (d3 : (k : Int).tdiv 8 = (j : Int)) (p1 : (0 : Int) ≤ (j : Int)) (p2 : (j : Int) < (N : Int)) (p3 : (0 : Int) ≤ (s : Int)) (p4 : (s : Int) < 64) (p5 : (j : Int) ≤ 1000000) (hsz : a0.tmps.size = 56) (sl0 : a0.tmps.getD 0 undef = .pointer (some ⟨g, 0, none⟩)) (sl8 : a0.tmps.getD 8 undef = .int .u8 (U8 x)) (sl9 : a0.tmps.getD 9 undef = .int .i64 k) (sl10 : a0.tmps.getD 10 undef = .int .i64 s)
    (fin : ∀ (vals : Nat → Value) (w1 : World), Below w.heap.size w w1 → (IsV (.int .u64 (U64 ((y &&& ~~~(255#64 <<< s)) ||| (x.setWidth 64 <<< s))))) (vals 21) w1 → (IsV (.pointer (some ⟨q, j, none⟩))) (vals 22) w1 → wpList Try.prog #[{ dst := none, op := Go.Op.store 57 (Go.Operand.tmp 54) (Go.Operand.tmp 53), type := 0, pos := "", after := #[], guard := none }] Q [{ dst := none, op := Go.Op.store 57 (Go.Operand.tmp 54) (Go.Operand.tmp 53), type := 0, pos := "", after := #[], guard := none }] (putD vals [32, 33, 34, 35, 36, 37, 38, 39, 40, 41, 42, 43, 44, 45, 46, 47, 48, 49, 50, 51, 52, 53, 54] 0 a0) w1) :
    (Code.region 8 (regIn Try.f68 8) true).wp Try.prog Q a0 w := by
  refine region_by_tail (m := 23) (G := fun w w1 => Below w.heap.size w w1) [IsV (.pointer (some ⟨g, 0, none⟩)),
    IsV (.pointer (some ⟨g, 0, none⟩)),
    IsV (.pointer (some ⟨g, 0, none⟩)),
    IsV (.slice (some ⟨q, 0, none⟩) N c),
    IsV (.int .i64 k),
    IsV (.int .i64 j),
    IsV (.pointer (some ⟨g, 0, none⟩)),
    IsV (.pointer (some ⟨g, 0, none⟩)),
    IsV (.pointer (some ⟨g, 0, none⟩)),
    IsV (.slice (some ⟨q, 0, none⟩) N c),
    IsV (.int .i64 k),
    IsV (.int .i64 j),
    IsV (.pointer (some ⟨q, j, none⟩)),
    IsV (.int .u64 (U64 y)),
    IsV (.int .i64 s),
    IsV (.int .u64 (U64 (255#64 <<< s))),
    IsV (.int .u64 (U64 (y &&& ~~~(255#64 <<< s)))),
    IsV (.int .u8 (U8 x)),
    IsV (.int .u64 (U64 (x.setWidth 64))),
    IsV (.int .i64 s),
    IsV (.int .u64 (U64 (x.setWidth 64 <<< s))),
    IsV (.int .u64 (U64 ((y &&& ~~~(255#64 <<< s)) ||| (x.setWidth 64 <<< s)))),
    IsV (.pointer (some ⟨q, j, none⟩))]
    [32, 33, 34, 35, 36, 37, 38, 39, 40, 41, 42, 43, 44, 45, 46, 47, 48, 49, 50, 51, 52, 53, 54] (by kernel_rfl) (Gw.drew _) Gw.trans (by rw [hsz]; kernel_rfl) (by kernel_rfl) ?_ ?_ ?_
  · intro f hf
    simp only [List.mem_cons, List.not_mem_nil, or_false] at hf
    rcases hf with rfl | rfl | rfl | rfl | rfl | rfl | rfl | rfl | rfl | rfl | rfl | rfl | rfl | rfl | rfl | rfl | rfl | rfl | rfl | rfl | rfl | rfl | rfl <;> intro v a b h g <;> first | exact IsV.mono h
  · refine ⟨?_, ?_, ?_, ?_, ?_, ?_, ?_, ?_, ?_, ?_, ?_, ?_, ?_, ?_, ?_, ?_, ?_, ?_, ?_, ?_, ?_, ?_, ?_, trivial⟩
    · exact owes_mv 0 (by kernel_rfl) (by kernel_rfl) (by kernel_rfl) sl0 (fun _ => rfl)
    · refine owes_v (Go.Op.nilCheck (Go.Operand.tmp 32)) 0 [0] (by kernel_rfl) (by kernel_rfl) (by kernel_rfl) rfl fun vals w1 ρ hG hF hρ hcst hfun => ?_
      have e32 : ρ (.tmp 32) = .pointer (some ⟨g, 0, none⟩) := ((hρ 32).trans (slotJ [0] (by rw [hsz]; decide) (by kernel_rfl))).trans (hF 0 (by decide))
      clear hρ hF hcst hfun sl0 sl8 sl9 sl10 fin
      exact opv_val (by go_simp <;> rfl) ⟨gw_self _, rfl⟩
    · refine owes_v (Go.Op.fieldAddr 108 (Go.Operand.tmp 33) 0) 0 [1] (by kernel_rfl) (by kernel_rfl) (by kernel_rfl) rfl fun vals w1 ρ hG hF hρ hcst hfun => ?_
      have e33 : ρ (.tmp 33) = .pointer (some ⟨g, 0, none⟩) := ((hρ 33).trans (slotJ [1] (by rw [hsz]; decide) (by kernel_rfl))).trans (hF 1 (by decide))
      clear hρ hF hcst hfun sl0 sl8 sl9 sl10 fin
      exact opv_val (by go_simp <;> rfl) ⟨gw_self _, rfl⟩
    · refine owes_v (Go.Op.load 33 (Go.Operand.tmp 34)) 33 [2] (by kernel_rfl) (by kernel_rfl) (by kernel_rfl) rfl fun vals w1 ρ hG hF hρ hcst hfun => ?_
      have e34 : ρ (.tmp 34) = .pointer (some ⟨g, 0, none⟩) := ((hρ 34).trans (slotJ [2] (by rw [hsz]; decide) (by kernel_rfl))).trans (hF 2 (by decide))
      have c0 := (hb.below hG hb.lt).cell 0
      clear hρ hF hcst hfun sl0 sl8 sl9 sl10 fin
      exact opv_val (by go_simp <;> rfl) ⟨gw_self _, rfl⟩
    · exact owes_mv 9 (by kernel_rfl) (by kernel_rfl) (by kernel_rfl) sl9 (fun _ => rfl)
    · refine owes_v (Go.Op.binOp Go.BinOp.quo 3 (Go.Operand.tmp 36) (Go.Operand.const (Go.Value.int Go.IntKind.i64 8)) 3) 3 [4] (by kernel_rfl) (by kernel_rfl) (by kernel_rfl) rfl fun vals w1 ρ hG hF hρ hcst hfun => ?_
      have e36 : ρ (.tmp 36) = .int .i64 k := ((hρ 36).trans (slotJ [4] (by rw [hsz]; decide) (by kernel_rfl))).trans (hF 4 (by decide))
      have kw0 : IntKind.i64.wrap ((j : Int)) = (j : Int) := wrapIn (by omega) (by omega)
      clear hρ hF hfun sl0 sl8 sl9 sl10 fin
      exact opv_val (by go_simp <;> rfl) ⟨gw_self _, rfl⟩
    · exact owes_mv 0 (by kernel_rfl) (by kernel_rfl) (by kernel_rfl) sl0 (fun _ => rfl)
    · refine owes_v (Go.Op.nilCheck (Go.Operand.tmp 38)) 0 [6] (by kernel_rfl) (by kernel_rfl) (by kernel_rfl) rfl fun vals w1 ρ hG hF hρ hcst hfun => ?_
      have e38 : ρ (.tmp 38) = .pointer (some ⟨g, 0, none⟩) := ((hρ 38).trans (slotJ [6] (by rw [hsz]; decide) (by kernel_rfl))).trans (hF 6 (by decide))
      clear hρ hF hcst hfun sl0 sl8 sl9 sl10 fin
      exact opv_val (by go_simp <;> rfl) ⟨gw_self _, rfl⟩
    · refine owes_v (Go.Op.fieldAddr 108 (Go.Operand.tmp 39) 0) 0 [7] (by kernel_rfl) (by kernel_rfl) (by kernel_rfl) rfl fun vals w1 ρ hG hF hρ hcst hfun => ?_
      have e39 : ρ (.tmp 39) = .pointer (some ⟨g, 0, none⟩) := ((hρ 39).trans (slotJ [7] (by rw [hsz]; decide) (by kernel_rfl))).trans (hF 7 (by decide))
      clear hρ hF hcst hfun sl0 sl8 sl9 sl10 fin
      exact opv_val (by go_simp <;> rfl) ⟨gw_self _, rfl⟩
    · refine owes_v (Go.Op.load 33 (Go.Operand.tmp 40)) 33 [8] (by kernel_rfl) (by kernel_rfl) (by kernel_rfl) rfl fun vals w1 ρ hG hF hρ hcst hfun => ?_
      have e40 : ρ (.tmp 40) = .pointer (some ⟨g, 0, none⟩) := ((hρ 40).trans (slotJ [8] (by rw [hsz]; decide) (by kernel_rfl))).trans (hF 8 (by decide))
      have c0 := (hb.below hG hb.lt).cell 0
      clear hρ hF hcst hfun sl0 sl8 sl9 sl10 fin
      exact opv_val (by go_simp <;> rfl) ⟨gw_self _, rfl⟩
    · exact owes_mv 9 (by kernel_rfl) (by kernel_rfl) (by kernel_rfl) sl9 (fun _ => rfl)
    · refine owes_v (Go.Op.binOp Go.BinOp.quo 3 (Go.Operand.tmp 42) (Go.Operand.const (Go.Value.int Go.IntKind.i64 8)) 3) 3 [10] (by kernel_rfl) (by kernel_rfl) (by kernel_rfl) rfl fun vals w1 ρ hG hF hρ hcst hfun => ?_
      have e42 : ρ (.tmp 42) = .int .i64 k := ((hρ 42).trans (slotJ [10] (by rw [hsz]; decide) (by kernel_rfl))).trans (hF 10 (by decide))
      have kw0 : IntKind.i64.wrap ((j : Int)) = (j : Int) := wrapIn (by omega) (by omega)
      clear hρ hF hfun sl0 sl8 sl9 sl10 fin
      exact opv_val (by go_simp <;> rfl) ⟨gw_self _, rfl⟩
    · refine owes_v (Go.Op.indexAddr 33 (Go.Operand.tmp 41) (Go.Operand.tmp 43)) 0 [9, 11] (by kernel_rfl) (by kernel_rfl) (by kernel_rfl) rfl fun vals w1 ρ hG hF hρ hcst hfun => ?_
      have e41 : ρ (.tmp 41) = .slice (some ⟨q, 0, none⟩) N c := ((hρ 41).trans (slotJ [9, 11] (by rw [hsz]; decide) (by kernel_rfl))).trans (hF 9 (by decide))
      have e43 : ρ (.tmp 43) = .int .i64 j := ((hρ 43).trans (slotJ [9, 11] (by rw [hsz]; decide) (by kernel_rfl))).trans (hF 11 (by decide))
      clear hρ hF hcst hfun sl0 sl8 sl9 sl10 fin
      exact opv_val (by go_simp <;> rfl) ⟨gw_self _, rfl⟩
    · refine owes_v (Go.Op.load 57 (Go.Operand.tmp 44)) 57 [12] (by kernel_rfl) (by kernel_rfl) (by kernel_rfl) rfl fun vals w1 ρ hG hF hρ hcst hfun => ?_
      have e44 : ρ (.tmp 44) = .pointer (some ⟨q, j, none⟩) := ((hρ 44).trans (slotJ [12] (by rw [hsz]; decide) (by kernel_rfl))).trans (hF 12 (by decide))
      have c0 := (hG.cell (p := ⟨q, j, none⟩) hq).trans hy
      clear hρ hF hcst hfun sl0 sl8 sl9 sl10 fin
      exact opv_val (by go_simp <;> rfl) ⟨gw_self _, rfl⟩
    · exact owes_mv 10 (by kernel_rfl) (by kernel_rfl) (by kernel_rfl) sl10 (fun _ => rfl)
    · refine owes_v (Go.Op.binOp Go.BinOp.shl 57 (Go.Operand.const (Go.Value.int Go.IntKind.u64 255)) (Go.Operand.tmp 46) 3) 57 [14] (by kernel_rfl) (by kernel_rfl) (by kernel_rfl) rfl fun vals w1 ρ hG hF hρ hcst hfun => ?_
      have e46 : ρ (.tmp 46) = .int .i64 s := ((hρ 46).trans (slotJ [14] (by rw [hsz]; decide) (by kernel_rfl))).trans (hF 14 (by decide))
      clear hρ hF hfun sl0 sl8 sl9 sl10 fin
      exact opv_val (by go_simp <;> rfl) ⟨gw_self _, rfl⟩
    · refine owes_v (Go.Op.binOp Go.BinOp.andNot 57 (Go.Operand.tmp 45) (Go.Operand.tmp 47) 57) 57 [13, 15] (by kernel_rfl) (by kernel_rfl) (by kernel_rfl) rfl fun vals w1 ρ hG hF hρ hcst hfun => ?_
      have e45 : ρ (.tmp 45) = .int .u64 (U64 y) := ((hρ 45).trans (slotJ [13, 15] (by rw [hsz]; decide) (by kernel_rfl))).trans (hF 13 (by decide))
      have e47 : ρ (.tmp 47) = .int .u64 (U64 (255#64 <<< s)) := ((hρ 47).trans (slotJ [13, 15] (by rw [hsz]; decide) (by kernel_rfl))).trans (hF 15 (by decide))
      clear hρ hF hcst hfun sl0 sl8 sl9 sl10 fin
      exact opv_val (by go_simp <;> rfl) ⟨gw_self _, rfl⟩
    · exact owes_mv 8 (by kernel_rfl) (by kernel_rfl) (by kernel_rfl) sl8 (fun _ => rfl)
    · refine owes_v (Go.Op.convert 5 57 (Go.Operand.tmp 49)) 57 [17] (by kernel_rfl) (by kernel_rfl) (by kernel_rfl) rfl fun vals w1 ρ hG hF hρ hcst hfun => ?_
      have e49 : ρ (.tmp 49) = .int .u8 (U8 x) := ((hρ 49).trans (slotJ [17] (by rw [hsz]; decide) (by kernel_rfl))).trans (hF 17 (by decide))
      clear hρ hF hcst hfun sl0 sl8 sl9 sl10 fin
      exact opv_val (by go_simp <;> rfl) ⟨gw_self _, rfl⟩
    · exact owes_mv 10 (by kernel_rfl) (by kernel_rfl) (by kernel_rfl) sl10 (fun _ => rfl)
    · refine owes_v (Go.Op.binOp Go.BinOp.shl 57 (Go.Operand.tmp 50) (Go.Operand.tmp 51) 3) 57 [18, 19] (by kernel_rfl) (by kernel_rfl) (by kernel_rfl) rfl fun vals w1 ρ hG hF hρ hcst hfun => ?_
      have e50 : ρ (.tmp 50) = .int .u64 (U64 (x.setWidth 64)) := ((hρ 50).trans (slotJ [18, 19] (by rw [hsz]; decide) (by kernel_rfl))).trans (hF 18 (by decide))
      have e51 : ρ (.tmp 51) = .int .i64 s := ((hρ 51).trans (slotJ [18, 19] (by rw [hsz]; decide) (by kernel_rfl))).trans (hF 19 (by decide))
      clear hρ hF hcst hfun sl0 sl8 sl9 sl10 fin
      exact opv_val (by go_simp <;> rfl) ⟨gw_self _, rfl⟩
    · refine owes_v (Go.Op.binOp Go.BinOp.or 57 (Go.Operand.tmp 48) (Go.Operand.tmp 52) 57) 57 [16, 20] (by kernel_rfl) (by kernel_rfl) (by kernel_rfl) rfl fun vals w1 ρ hG hF hρ hcst hfun => ?_
      have e48 : ρ (.tmp 48) = .int .u64 (U64 (y &&& ~~~(255#64 <<< s))) := ((hρ 48).trans (slotJ [16, 20] (by rw [hsz]; decide) (by kernel_rfl))).trans (hF 16 (by decide))
      have e52 : ρ (.tmp 52) = .int .u64 (U64 (x.setWidth 64 <<< s)) := ((hρ 52).trans (slotJ [16, 20] (by rw [hsz]; decide) (by kernel_rfl))).trans (hF 20 (by decide))
      clear hρ hF hcst hfun sl0 sl8 sl9 sl10 fin
      exact opv_val (by go_simp <;> rfl) ⟨gw_self _, rfl⟩
    · refine owes_v (Go.Op.indexAddr 33 (Go.Operand.tmp 35) (Go.Operand.tmp 37)) 0 [3, 5] (by kernel_rfl) (by kernel_rfl) (by kernel_rfl) rfl fun vals w1 ρ hG hF hρ hcst hfun => ?_
      have e35 : ρ (.tmp 35) = .slice (some ⟨q, 0, none⟩) N c := ((hρ 35).trans (slotJ [3, 5] (by rw [hsz]; decide) (by kernel_rfl))).trans (hF 3 (by decide))
      have e37 : ρ (.tmp 37) = .int .i64 j := ((hρ 37).trans (slotJ [3, 5] (by rw [hsz]; decide) (by kernel_rfl))).trans (hF 5 (by decide))
      clear hρ hF hcst hfun sl0 sl8 sl9 sl10 fin
      exact opv_val (by go_simp <;> rfl) ⟨gw_self _, rfl⟩
  · intro vals w1 hG hF
    exact last_list (by kernel_rfl) (by kernel_rfl) (by kernel_rfl) (fin vals w1 hG (hF 21 (by decide +kernel)) (hF 22 (by decide +kernel)))
theorem setBytes_in (w : World) (B g : Nat) (v : Value) (ws : List (BitVec 64)) (a : Nat) (A : Option Addr) (cb : Nat) (bs : List (BitVec 8)) (hi : a + bs.length ≤ 8 * ws.length) (hl : ws.length ≤ 100000) (h : MemAt w B g v ws) (hr : Rd b8 w w.heap.size A bs) (hap : 0 < bs.length → ∀ x, A = some x → some x.block ≠ v.ownBlock) :
    Calls Try.prog 68 #[.pointer (some ⟨g, 0, none⟩), .int .i64 a, .slice A bs.length cb] w fun e w' => e = .returned (.int .i64 0) ∧ MemAt w' B g v (putK ws a bs bs.length) ∧ w.grownBy w' v.ownBlock := by
  have HL := Lib.hid (len_c w B g v ws h)
  have HI := Lib.hid (insideM_c w ((8 * ws.length : Nat) : Int) (a : Int) bs.length (by omega) (by omega) (by omega) (by omega) (by omega) (by omega))
  rw [show inM ((8 * ws.length : Nat) : Int) (a : Int) bs.length = true from by unfold inM; simp; omega] at HI
  obtain ⟨A1, c, e, hc⟩ := h.row.form
  subst e
  have HM := Lib.hid h
  have HR := Lib.hid hr
  have HAP := Lib.hid hap
  obtain ⟨N, hN⟩ : ∃ N, N = ws.length := ⟨_, rfl⟩
  obtain ⟨M, hM⟩ : ∃ M, M = 8 * ws.length := ⟨_, rfl⟩
  obtain ⟨n, hn⟩ : ∃ n, n = bs.length := ⟨_, rfl⟩
  rw [← hM] at HI
  rw [← hN] at HL HM HAP ⊢
  rw [← hn] at HI ⊢
  have q1 : (N : Int) * 8 = (M : Int) := by omega
  have HAN := Lib.hid hi
  have HNN := Lib.hid hN
  have HBN := Lib.hid hn
  have q2 : (M : Int) ≤ 800000 := by omega
  have q3 : (n : Int) ≤ 800000 := by omega
  clear h hc hM hN hi hl hr hap hn
  go_enter Try.func68, Try.ntmps68
  go_wp2_with fail
  refine Calls.mono HL.out ?_
  rintro e w1 ⟨rfl, rfl⟩
  go_wp2_with fail
  refine Calls.mono HI.out ?_
  rintro e w2 ⟨rfl, rfl⟩
  go_wp2_with fail
  go_loopw [21] (fun i wr => ∃ k : Nat, k ≤ n ∧ i = .int .i64 k ∧ MemAt wr B g (.slice A1 N c) (putK ws a bs k) ∧ w2.grownBy wr (Value.slice A1 N c).ownBlock) (fun i _ => n - (Go.RowKit.intOf i).toNat)
  case atStart => exact ⟨0, by omega, rfl, HM.out, grown_refl _ _⟩
  case round =>
    obtain ⟨k, hkl, rfl, hm, hg⟩ := hrel
    by_cases hlt : k < n
    · have p1 : (0 : Int) ≤ (k : Int) := by omega
      have p2 : (k : Int) < (n : Int) := by omega
      have hin := HAN.out
      have hNo := HNN.out
      have hBo := HBN.out
      obtain ⟨q, rfl⟩ : ∃ q, A1 = some ⟨q, 0, none⟩ := by
        rcases hm.row.2 with ⟨e, hn⟩ | ⟨q, _, _, e, _⟩
        · have hn' : (putK ws a bs k).length = 0 := hn
          rw [putK_len] at hn'
          omega
        · injection e with e
          exact ⟨q, e⟩
      obtain ⟨ad, rfl, hadb, hcl⟩ := (HR.out.grown hg (HAP.out (by omega))) k (by omega)
      obtain ⟨x, hx⟩ : ∃ x, x = bs[k]'(by omega) := ⟨_, rfl⟩
      rw [← hx] at hcl
      unfold b8 at hcl
      obtain ⟨s, hs⟩ : ∃ s, s = a + k := ⟨_, rfl⟩
      obtain ⟨j, hj⟩ : ∃ j, j = s / 8 := ⟨_, rfl⟩
      obtain ⟨b, hb⟩ : ∃ b, b = s % 8 := ⟨_, rfl⟩
      obtain ⟨t, ht⟩ : ∃ t, t = 8 * b := ⟨_, rfl⟩
      have hjl : j < ws.length := by omega
      have hjp : j < (putK ws a bs k).length := by rw [putK_len]; exact hjl
      have hbk := hm.blk
      have hq := hm.row.ge
      have hfz := hm.row.free j
      have hcell := hm.row.cell hjp
      obtain ⟨y, hy⟩ : ∃ y, y = (putK ws a bs k)[j] := ⟨_, rfl⟩
      rw [← hy] at hcell
      unfold u64v at hcell
      have hput : putK ws a bs (k + 1) = (putK ws a bs k).set j ((y &&& ~~~(255#64 <<< t)) ||| (x.setWidth 64 <<< t)) := by
        show setB (putK ws a bs k) (a + k) (bs.getD k 0#8) = _
        unfold setB
        rw [← hs, ← hj, ← hb, ← ht, hy, hx, List.getD_eq_getElem?_getD, List.getElem?_eq_getElem hjp, List.getD_eq_getElem?_getD, List.getElem?_eq_getElem (by omega)]
        rfl
      have hrow := hm.row.set hjp ((y &&& ~~~(255#64 <<< t)) ||| (x.setWidth 64 <<< t))
      rw [← hput] at hrow
      have hne : q ≠ g := fun e => hm.ne (by rw [e]; rfl)
      have HS := Lib.hid (fun (W : World) (hW : Below wr.heap.size wr W) (u : Value) (hu : u = u64v ((y &&& ~~~(255#64 <<< t)) ||| (x.setWidth 64 <<< t))) => show MemAt (W.setCell ⟨q, j, none⟩ u) B g (.slice (some ⟨q, 0, none⟩) N c) (putK ws a bs (k + 1)) ∧ w2.grownBy (W.setCell ⟨q, j, none⟩ u) (some q) from by
        subst hu
        have r2 := (hm.row.below hW).set hjp ((y &&& ~~~(255#64 <<< t)) ||| (x.setWidth 64 <<< t))
        rw [← hput] at r2
        exact ⟨⟨(hm.blk.below hW hm.blk.lt).far (p := ⟨q, j, none⟩) hne.symm _, hm.ge, r2, hm.ne⟩, (hg.trans (grown_none hW _)).trans (grown_set W ⟨q, j, none⟩ _)⟩)
      have HFZ := Lib.hid (fun (W : World) (hW : Below wr.heap.size wr W) => (hm.row.below hW).free j)
      have HCL := Lib.hid (fun (W : World) (hW : Below wr.heap.size wr W) => show W.cell? ⟨q, j, none⟩ = some (.int .u64 (U64 y)) from by have h0 := (hm.row.below hW).cell hjp; rw [← hy] at h0; exact h0)
      have d0 : (a : Int) + (k : Int) = (s : Int) := by omega
      have d2 : (s : Int) % 8 = (b : Int) := by omega
      have d3 : (s : Int).tdiv 8 = (j : Int) := by rw [Int.tdiv_eq_ediv_of_nonneg (by omega)]; omega
      have d4 : (s : Int).tmod 8 = (b : Int) := by rw [← d2]; exact Int.tmod_eq_emod_of_nonneg (by omega)
      have d5 : (0 : Int) ≤ (s : Int) := by omega
      have d6 : (s : Int) ≤ 800000 := by omega
      have d7 : (b : Int) < 8 := by omega
      have d8 : (0 : Int) ≤ (b : Int) := by omega
      have d9 : (8 : Int) * (b : Int) = (t : Int) := by omega
      have HX := Lib.hid (And.intro (show (0 : Int) ≤ (j : Int) by omega) (And.intro (show (j : Int) < (N : Int) by omega) (And.intro (show (t : Int) < 64 by omega) (show (j : Int) ≤ 1000000 by omega))))
      have HC := Lib.hid hcell
      have HQ := Lib.hid hq.2
      have HK := Lib.hid hbk
      clear hj hb hs hin hNo hBo hadb hx hy ht hjl hjp hbk hq hfz hcell hput hrow hne hm
      go_wp2_with fail
      refine sb_reg _ _ _ g q N c s j t x y HK.out HQ.out HC.out d3 HX.out.1 HX.out.2.1 (by omega) HX.out.2.2.1 HX.out.2.2.2 rfl rfl rfl rfl rfl ?_
      intro vals w3 hG h53 h54
      unfold IsV at h53 h54
      simp only [putD, Act.put, List.setIfInBounds_toArray, List.set_cons_zero, List.set_cons_succ, h53, h54]
      have hS := HS.out w3 hG _ rfl
      have hf := HFZ.out w3 hG
      have hc := HCL.out w3 hG
      have HS3 := Lib.hid hS
      clear hS h53 h54 HK HQ HC HX HS HFZ HCL
      go_wp2_with fail
      go_roundw
      case rel => exact ⟨k + 1, by omega, by go_num, HS3.out.1, HS3.out.2⟩
      case measure => (first | (simp [Go.RowKit.intOf]; done) | (simp [Go.RowKit.intOf]; omega))
    · have hkk : k = n := by omega
      subst hkk
      have HF := Lib.hid (And.intro hm hg)
      clear hm hg
      go_wp2_with fail
      go_ret
      exact ⟨rfl, HF.out.1, HF.out.2⟩
end Go.Proofs.Ytkkjnahjmomjgaa
/- obj.SetPtr, Read, Write. Conditions: lengths. -/
namespace Go.Proofs.Ytkkjnahjmomjgaa
set_option linter.unusedVariables false
set_option linter.unusedSimpArgs false
open Go.RowKit
/-- Nothing of the old world but the row of words has changed. -/
def SetP (w : World) (B s g : Nat) (v : Value) (ws : List (BitVec 64)) (b t e : Nat) (r : Ending) (w' : World) : Prop := r = .returned (.int .i64 0) ∧ SpAt w' B s g v ws b t e ∧ Two w w' s v.ownBlock ∧ Below B w w'
set_option maxHeartbeats 1000000
set_option maxRecDepth 100000
theorem setptr_nil (w : World) (B s g : Nat) (v : Value) (ws : List (BitVec 64)) (b t e : Nat) (p : SpAt w B s g v ws b t e) (hl : ws.length ≤ 100000) (a k : Nat) (h1 : b ≤ a) (h2 : a < t) (hg : goodX (ws.getD a 0#64) (t - a) = true) (hk : k < P0 (ws.getD a 0#64)) :
    Calls Try.prog 61 #[.pointer (some ⟨s, 0, none⟩), .int .i64 a, .int .i64 k, .int .i64 (-1)] w (SetP w B s g v (ws.set (a + 1 + k) 0#64) b t e) := by
  have HL := Lib.hid (ptr_ok w B s g v ws b t e p hl a k h1 h2 hg hk)
  obtain ⟨hj, _⟩ := word_in (b := b) hg h2 p.te p.el hk
  obtain ⟨J, hJ⟩ : ∃ J, J = a + 1 + k := ⟨_, rfl⟩
  rw [← hJ] at HL hj ⊢
  have HS := Lib.hid (fun W (hb : Below w.heap.size w W) => set_in W B g v ws J 0#64 hj hl (p.below hb).mem)
  rw [show U64 (0#64) = 0 from by decide +kernel] at HS
  have HP := Lib.hid p
  have hBw := p.mem.le
  clear hJ p hl h1 h2 hg hk hj
  go_enter Try.func61, Try.ntmps61
  go_wp2_with fail
  refine Calls.mono HL.out ?_
  rintro r w2 ⟨rfl, b2⟩
  have HB := Lib.hid b2
  have c0 := (HP.out.below b2).four.1
  clear b2 HL
  go_wp2_with fail
  refine Calls.mono (HS.out w2 HB.out) ?_
  rintro r w3 ⟨rfl, hm, hg3⟩
  have HF := Lib.hid (And.intro hm hg3)
  clear hm hg3 c0
  go_wp2_with fail
  go_ret
  exact ⟨rfl, (HP.out.below HB.out).memTo HF.out.1 HF.out.2 (by rw [List.length_set]), (Two.below HB.out).trans (Two.grown HF.out.2), (HB.out.mono hBw).trans ((HP.out.below HB.out).mem.own HF.out.2)⟩
theorem setptr_to (w : World) (B s g : Nat) (v : Value) (ws : List (BitVec 64)) (b t e : Nat) (p : SpAt w B s g v ws b t e) (hl : ws.length ≤ 100000) (a k m : Nat) (h1 : b ≤ a) (h2 : a < t) (hg : goodX (ws.getD a 0#64) (t - a) = true) (hk : k < P0 (ws.getD a 0#64)) (hm1 : b ≤ m) (hm2 : m < t) :
    Calls Try.prog 61 #[.pointer (some ⟨s, 0, none⟩), .int .i64 a, .int .i64 k, .int .i64 m] w (SetP w B s g v (ws.set (a + 1 + k) (BitVec.ofNat 64 (m + 1))) b t e) := by
  have HL := Lib.hid (ptr_ok w B s g v ws b t e p hl a k h1 h2 hg hk)
  obtain ⟨hj, _⟩ := word_in (b := b) hg h2 p.te p.el hk
  obtain ⟨J, hJ⟩ : ∃ J, J = a + 1 + k := ⟨_, rfl⟩
  rw [← hJ] at HL hj ⊢
  have hm3 : m < 100000 := by have := p.te; have := p.el; omega
  have HS := Lib.hid (fun W (hb : Below w.heap.size w W) => set_in W B g v ws J (BitVec.ofNat 64 (m + 1)) hj hl (p.below hb).mem)
  rw [ofNat_U64 (m + 1) (by omega), show ((m + 1 : Nat) : Int) = (m : Int) + 1 by omega] at HS
  have HI := Lib.hid (fun W (hb : Below w.heap.size w W) => inside_c W B s g v ws b t e (p.below hb) (m : Int))
  rw [show insB b t (m : Int) = true by unfold insB; simp; omega] at HI
  have HP := Lib.hid p
  have hBw := p.mem.le
  have q1 : ((m : Int) == -1) = false := by simp
  have q2 : ((m : Int) != -1) = true := by simp
  have q3 : (m : Int) ≤ 100000 := by omega
  have q4 : (0 : Int) ≤ (m : Int) := by omega
  clear hJ p hl h1 h2 hg hk hj hm1 hm2 hm3
  go_enter Try.func61, Try.ntmps61
  go_wp2_with fail
  refine Calls.mono HL.out ?_
  rintro r w2 ⟨rfl, b2⟩
  have HB := Lib.hid b2
  clear b2 HL
  go_wp2_with fail
  refine Calls.mono (HI.out w2 HB.out) ?_
  rintro r w3 ⟨rfl, b3⟩
  have HB3 := Lib.hid (HB.out.trans (b3.mono HB.out.size))
  have c0 := (HP.out.below HB3.out).four.1
  clear b3
  go_wp2_with fail
  refine Calls.mono (HS.out w3 HB3.out) ?_
  rintro r w4 ⟨rfl, hm, hg4⟩
  have HF := Lib.hid (And.intro hm hg4)
  clear hm hg4 c0
  go_wp2_with fail
  go_ret
  exact ⟨rfl, (HP.out.below HB3.out).memTo HF.out.1 HF.out.2 (by rw [List.length_set]), (Two.below HB3.out).trans (Two.grown HF.out.2), (HB3.out.mono hBw).trans ((HP.out.below HB3.out).mem.own HF.out.2)⟩
theorem bytes_room {ws : List (BitVec 64)} {t e a i n : Nat} {x : BitVec 64} (hx : goodX x (t - a) = true) (h2 : a < t) (hte : t ≤ e) (hel : e ≤ ws.length) (hi : i + n ≤ B0 x) : 8 * (a + 1 + P0 x) + i + n ≤ 8 * t ∧ 8 * (a + 1 + P0 x) + i + n ≤ 8 * ws.length := by
  obtain ⟨_, _, _, h, _, h3⟩ := head_of hx
  omega
theorem read_ok (w : World) (B s g : Nat) (v : Value) (ws : List (BitVec 64)) (b t e : Nat) (p : SpAt w B s g v ws b t e) (hl : ws.length ≤ 100000) (a i n : Nat) (h1 : b ≤ a) (h2 : a < t) (hg : goodX (ws.getD a 0#64) (t - a) = true) (hi : i + n ≤ B0 (ws.getD a 0#64)) :
    Calls Try.prog 111 #[.pointer (some ⟨s, 0, none⟩), .int .i64 a, .int .i64 i, .int .i64 n] w (MkEP b8 5 (bytesM ws (8 * (a + 1 + P0 (ws.getD a 0#64)) + i) n) 0 w) := by
  have HL := Lib.hid (data_ok w B s g v ws b t e p hl a i n h1 h2 hg hi)
  obtain ⟨_, hr⟩ := bytes_room hg h2 p.te p.el hi
  obtain ⟨J, hJ⟩ : ∃ J, J = 8 * (a + 1 + P0 (ws.getD a 0#64)) + i := ⟨_, rfl⟩
  rw [← hJ] at HL hr ⊢
  have HR := Lib.hid (fun W (hb : Below w.heap.size w W) => bytes_in W B g v ws J n hr hl (p.below hb).mem)
  have HC := Lib.hid (fun W (hb : Below w.heap.size w W) => (p.below hb).four.1)
  clear hJ p hl h1 h2 hg hi hr
  go_enter Try.func111, Try.ntmps111
  go_wp2_with fail
  refine Calls.mono HL.out ?_
  rintro r w2 ⟨rfl, b2⟩
  have HB := Lib.hid b2
  have c0 := HC.out w2 b2
  clear b2 HL
  go_wp2_with fail
  refine Calls.mono (HR.out w2 HB.out) ?_
  rintro r w3 ⟨A, c, rfl, hc, ho, b3⟩
  have HO := Lib.hid (And.intro hc (And.intro ho b3))
  obtain ⟨F, hF⟩ : ∃ F, F = (bytesM ws J n).length := ⟨_, rfl⟩
  have HFl := Lib.hid hF
  rw [← hF]
  clear hc ho b3 c0 hF
  go_wp2_with fail
  go_ret2
  rw [HFl.out]
  exact MkEP.of (HO.out.2.1.mono HB.out.size) (HB.out.trans (HO.out.2.2.mono HB.out.size))
theorem write_ok (w : World) (B s g : Nat) (v : Value) (ws : List (BitVec 64)) (b t e : Nat) (p : SpAt w B s g v ws b t e) (hl : ws.length ≤ 100000) (a i : Nat) (A : Option Addr) (c : Nat) (bs : List (BitVec 8)) (h1 : b ≤ a) (h2 : a < t) (hg : goodX (ws.getD a 0#64) (t - a) = true) (hi : i + bs.length ≤ B0 (ws.getD a 0#64)) (hr : Rd b8 w w.heap.size A bs) (hap : 0 < bs.length → ∀ x, A = some x → some x.block ≠ v.ownBlock) :
    Calls Try.prog 62 #[.pointer (some ⟨s, 0, none⟩), .int .i64 a, .int .i64 i, .slice A bs.length c] w (SetP w B s g v (putK ws (8 * (a + 1 + P0 (ws.getD a 0#64)) + i) bs bs.length) b t e) := by
  have HL := Lib.hid (data_ok w B s g v ws b t e p hl a i bs.length h1 h2 hg hi)
  obtain ⟨_, hro⟩ := bytes_room hg h2 p.te p.el hi
  obtain ⟨J, hJ⟩ : ∃ J, J = 8 * (a + 1 + P0 (ws.getD a 0#64)) + i := ⟨_, rfl⟩
  rw [← hJ] at HL hro ⊢
  have HS := Lib.hid (fun W (hb : Below w.heap.size w W) => setBytes_in W B g v ws J A c bs hro hl (p.below hb).mem ((hr.below hb).more hb.size) hap)
  obtain ⟨n, hn⟩ : ∃ n, n = bs.length := ⟨_, rfl⟩
  rw [← hn] at HL HS ⊢
  have HP := Lib.hid p
  have hBw := p.mem.le
  have HLn := Lib.hid hl
  clear hJ p hl h1 h2 hg hi hro hr hap hn
  go_enter Try.func62, Try.ntmps62
  go_wp2_with fail
  refine Calls.mono HL.out ?_
  rintro r w2 ⟨rfl, b2⟩
  have HB := Lib.hid b2
  have c0 := (HP.out.below b2).four.1
  clear b2 HL
  go_wp2_with fail
  refine Calls.mono (HS.out w2 HB.out) ?_
  rintro r w3 ⟨rfl, hm, hg3⟩
  have HF := Lib.hid (And.intro hm hg3)
  clear hm hg3 c0
  go_wp2_with fail
  go_ret
  exact ⟨rfl, (HP.out.below HB.out).memTo HF.out.1 HF.out.2 (putK_len _ _ _ _), (Two.below HB.out).trans (Two.grown HF.out.2), (HB.out.mono hBw).trans ((HP.out.below HB.out).mem.own HF.out.2)⟩
end Go.Proofs.Ytkkjnahjmomjgaa
/- obj.padded. Conditions: lengths. -/
namespace Go.Proofs.Ytkkjnahjmomjgaa
set_option linter.unusedVariables false
set_option linter.unusedSimpArgs false
open Go.RowKit
def BtT (xs : List (BitVec 8)) (v : Value) (w : World) : Prop := ∃ A c, v = .tuple #[.slice A xs.length c, .int .i64 0] ∧ Rd b8 w w.heap.size A xs
theorem BtT.mono {xs : List (BitVec 8)} {v : Value} {a b : World} (h : BtT xs v a) (g : Below a.heap.size a b) : BtT xs v b := by
  obtain ⟨A, c, e, h⟩ := h
  exact ⟨A, c, e, (h.below g).more g.size⟩
def BtS (xs : List (BitVec 8)) (v : Value) (w : World) : Prop := ∃ A c, v = .slice A xs.length c ∧ Rd b8 w w.heap.size A xs
theorem BtS.mono {xs : List (BitVec 8)} {v : Value} {a b : World} (h : BtS xs v a) (g : Below a.heap.size a b) : BtS xs v b := by
  obtain ⟨A, c, e, h⟩ := h
  exact ⟨A, c, e, (h.below g).more g.size⟩
theorem bytes_k {W : World} {B g : Nat} {v : Value} {ws : List (BitVec 64)} {a n : Nat} {xs : List (BitVec 8)} (hx : bytesM ws a n = xs) (hi : a + n ≤ 8 * ws.length) (hl : ws.length ≤ 100000) (h : MemAt W B g v ws) :
    Calls Try.prog 100 #[.pointer (some ⟨g, 0, none⟩), .int .i64 a, .int .i64 n] W fun e w2 => ∃ u, e = .returned u ∧ Below W.heap.size W w2 ∧ BtT xs u w2 := by
  subst hx
  refine (bytes_in W B g v ws a n hi hl h).mono ?_
  rintro e w2 ⟨A, c, rfl, _, ho, b2⟩
  exact ⟨_, rfl, b2, A, c, rfl, ho.rd⟩
/-- Whether all is 0 behind an object's bytes. -/
def padB (ws : List (BitVec 64)) (J K : Nat) : Bool := (bytesM ws J K).all (· == 0#8)
set_option maxHeartbeats 1000000
set_option maxRecDepth 100000
theorem pad_r (Q : Exit → Act → World → Prop) (a0 : Act) (w : World) (s g H B a Z J K b t e : Nat) (P N : Int) (v : Value) (ws : List (BitVec 64)) (xs : List (BitVec 8)) (hk : Bk w H 112 #[.int .i64 P, .int .i64 N, .bool false, .int .i64 0]) (sp : Hid (SpAt w B s g v ws b t e)) (hz : Hid (sizeH P N false 0 = (Z : Int))) (hx : Hid (bytesM ws J K = xs)) (hr : Hid (J + K ≤ 8 * ws.length)) (hl : Hid (ws.length ≤ 100000)) (q1 : (a : Int) ≤ 100000) (q2 : (Z : Int) ≤ 1000) (q3 : (0 : Int) ≤ (a : Int)) (q4 : (0 : Int) ≤ (Z : Int)) (q5 : ((a : Int) + (Z : Int)) * 8 - (J : Int) = (K : Int)) (q6 : (K : Int) ≤ 1000) (q7 : (0 : Int) ≤ (J : Int)) (q8 : (J : Int) ≤ 1000000) (q9 : (0 : Int) ≤ (K : Int)) (hsz : a0.tmps.size = 48) (sl0 : a0.tmps.getD 0 undef = .pointer (some ⟨s, 0, none⟩)) (sl1 : a0.tmps.getD 1 undef = .int .i64 a) (sl5 : a0.tmps.getD 5 undef = .pointer (some ⟨H, 0, none⟩)) (sl7 : a0.tmps.getD 7 undef = .int .i64 J)
    (fin : ∀ (vals : Nat → Value) (w1 : World), Below w.heap.size w w1 → (BtS xs) (vals 16) w1 → (IsV (.int .i64 0)) (vals 17) w1 → Q .normal (putD vals [22, 23, 24, 25, 26, 27, 28, 29, 30, 31, 32, 33, 34, 21, 35, 36, 8, 9] 0 a0) w1) :
    (Code.region 2 (regIn Try.f110 2) true).wp Try.prog Q a0 w := by
  refine region_by (G := fun w w1 => Below w.heap.size w w1) [IsV (.pointer (some ⟨s, 0, none⟩)),
    IsV (.pointer (some ⟨s, 0, none⟩)),
    IsV (.pointer (some ⟨s, 0, none⟩)),
    IsV (.pointer (some ⟨g, 0, none⟩)),
    IsV (.int .i64 J),
    IsV (.int .i64 a),
    IsV (.agg #[.int .i64 P, .int .i64 N, .bool false, .int .i64 0]),
    IsV (.int .i64 Z),
    IsV (.int .i64 ((a : Int) + (Z : Int))),
    IsV (.int .i64 (((a : Int) + (Z : Int)) * 8)),
    IsV (.int .i64 J),
    IsV (.int .i64 K),
    BtT xs,
    BtT xs,
    BtS xs,
    IsV (.int .i64 0),
    BtS xs,
    IsV (.int .i64 0)]
    [22, 23, 24, 25, 26, 27, 28, 29, 30, 31, 32, 33, 34, 21, 35, 36, 8, 9] (by kernel_rfl) (Gw.drew _) Gw.trans (by rw [hsz]; kernel_rfl) (by kernel_rfl) ?_ ?_ ?_
  · intro f hf
    simp only [List.mem_cons, List.not_mem_nil, or_false] at hf
    rcases hf with rfl | rfl | rfl | rfl | rfl | rfl | rfl | rfl | rfl | rfl | rfl | rfl | rfl | rfl | rfl | rfl | rfl | rfl <;> intro v a b h g <;> first | exact IsV.mono h | exact BtT.mono h g | exact BtS.mono h g
  · refine ⟨?_, ?_, ?_, ?_, ?_, ?_, ?_, ?_, ?_, ?_, ?_, ?_, ?_, ?_, ?_, ?_, ?_, ?_, trivial⟩
    · exact owes_mv 0 (by kernel_rfl) (by kernel_rfl) (by kernel_rfl) sl0 (fun _ => rfl)
    · refine owes_v (Go.Op.nilCheck (Go.Operand.tmp 22)) 0 [0] (by kernel_rfl) (by kernel_rfl) (by kernel_rfl) rfl fun vals w1 ρ hG hF hρ hcst hfun => ?_
      have e22 : ρ (.tmp 22) = .pointer (some ⟨s, 0, none⟩) := ((hρ 22).trans (slotJ [0] (by rw [hsz]; decide) (by kernel_rfl))).trans (hF 0 (by decide))
      clear hρ hF hcst hfun sl0 sl1 sl5 sl7 fin
      exact opv_val (by go_simp <;> rfl) ⟨gw_self _, rfl⟩
    · refine owes_v (Go.Op.fieldAddr 147 (Go.Operand.tmp 23) 0) 0 [1] (by kernel_rfl) (by kernel_rfl) (by kernel_rfl) rfl fun vals w1 ρ hG hF hρ hcst hfun => ?_
      have e23 : ρ (.tmp 23) = .pointer (some ⟨s, 0, none⟩) := ((hρ 23).trans (slotJ [1] (by rw [hsz]; decide) (by kernel_rfl))).trans (hF 1 (by decide))
      clear hρ hF hcst hfun sl0 sl1 sl5 sl7 fin
      exact opv_val (by go_simp <;> rfl) ⟨gw_self _, rfl⟩
    · refine owes_v (Go.Op.load 61 (Go.Operand.tmp 24)) 61 [2] (by kernel_rfl) (by kernel_rfl) (by kernel_rfl) rfl fun vals w1 ρ hG hF hρ hcst hfun => ?_
      have e24 : ρ (.tmp 24) = .pointer (some ⟨s, 0, none⟩) := ((hρ 24).trans (slotJ [2] (by rw [hsz]; decide) (by kernel_rfl))).trans (hF 2 (by decide))
      have k := (sp.out.below hG).four.1
      clear hρ hF hcst hfun sl0 sl1 sl5 sl7 fin
      exact opv_val (by go_simp <;> rfl) ⟨gw_self _, rfl⟩
    · exact owes_mv 7 (by kernel_rfl) (by kernel_rfl) (by kernel_rfl) sl7 (fun _ => rfl)
    · exact owes_mv 1 (by kernel_rfl) (by kernel_rfl) (by kernel_rfl) sl1 (fun _ => rfl)
    · refine owes_v (Go.Op.load 112 (Go.Operand.tmp 5)) 112 [] (by kernel_rfl) (by kernel_rfl) (by kernel_rfl) rfl fun vals w1 ρ hG hF hρ hcst hfun => ?_
      have e5 : ρ (.tmp 5) = .pointer (some ⟨H, 0, none⟩) := ((hρ 5).trans (slotO [] (by kernel_rfl))).trans sl5
      obtain ⟨k1, k2, k3, k4⟩ := (hk.below hG hk.lt).four
      clear hρ hF hcst hfun sl0 sl1 sl5 sl7 fin
      exact opv_val (by go_simp <;> rfl) ⟨gw_self _, rfl⟩
    · refine owes_v (Go.Op.call { callee := Go.Callee.value (Go.Operand.func 72), args := #[Go.Operand.tmp 28], argTypes := #[112] }) 3 [6] (by kernel_rfl) (by kernel_rfl) (by kernel_rfl) rfl fun vals w1 ρ hG hF hρ hcst hfun => ?_
      have e28 : ρ (.tmp 28) = .agg #[.int .i64 P, .int .i64 N, .bool false, .int .i64 0] := ((hρ 28).trans (slotJ [6] (by rw [hsz]; decide) (by kernel_rfl))).trans (hF 6 (by decide))
      have kz := size_c P N false 0 w1
      rw [hz.out] at kz
      clear hρ hF hcst sl0 sl1 sl5 sl7 fin
      exact opv_enter (by go_simp <;> rfl) (of_rp kz)
    · refine owes_v (Go.Op.binOp Go.BinOp.add 3 (Go.Operand.tmp 27) (Go.Operand.tmp 29) 3) 3 [5, 7] (by kernel_rfl) (by kernel_rfl) (by kernel_rfl) rfl fun vals w1 ρ hG hF hρ hcst hfun => ?_
      have e27 : ρ (.tmp 27) = .int .i64 a := ((hρ 27).trans (slotJ [5, 7] (by rw [hsz]; decide) (by kernel_rfl))).trans (hF 5 (by decide))
      have e29 : ρ (.tmp 29) = .int .i64 Z := ((hρ 29).trans (slotJ [5, 7] (by rw [hsz]; decide) (by kernel_rfl))).trans (hF 7 (by decide))
      have kw0 : IntKind.i64.wrap (((a : Int) + (Z : Int))) = ((a : Int) + (Z : Int)) := wrapIn (by omega) (by omega)
      clear hρ hF hcst hfun sl0 sl1 sl5 sl7 fin
      exact opv_val (by go_simp <;> rfl) ⟨gw_self _, rfl⟩
    · refine owes_v (Go.Op.binOp Go.BinOp.mul 3 (Go.Operand.tmp 30) (Go.Operand.const (Go.Value.int Go.IntKind.i64 8)) 3) 3 [8] (by kernel_rfl) (by kernel_rfl) (by kernel_rfl) rfl fun vals w1 ρ hG hF hρ hcst hfun => ?_
      have e30 : ρ (.tmp 30) = .int .i64 ((a : Int) + (Z : Int)) := ((hρ 30).trans (slotJ [8] (by rw [hsz]; decide) (by kernel_rfl))).trans (hF 8 (by decide))
      have kw0 : IntKind.i64.wrap ((((a : Int) + (Z : Int)) * 8)) = (((a : Int) + (Z : Int)) * 8) := wrapIn (by omega) (by omega)
      clear hρ hF hfun sl0 sl1 sl5 sl7 fin
      exact opv_val (by go_simp <;> rfl) ⟨gw_self _, rfl⟩
    · exact owes_mv 7 (by kernel_rfl) (by kernel_rfl) (by kernel_rfl) sl7 (fun _ => rfl)
    · refine owes_v (Go.Op.binOp Go.BinOp.sub 3 (Go.Operand.tmp 31) (Go.Operand.tmp 32) 3) 3 [9, 10] (by kernel_rfl) (by kernel_rfl) (by kernel_rfl) rfl fun vals w1 ρ hG hF hρ hcst hfun => ?_
      have e31 : ρ (.tmp 31) = .int .i64 (((a : Int) + (Z : Int)) * 8) := ((hρ 31).trans (slotJ [9, 10] (by rw [hsz]; decide) (by kernel_rfl))).trans (hF 9 (by decide))
      have e32 : ρ (.tmp 32) = .int .i64 J := ((hρ 32).trans (slotJ [9, 10] (by rw [hsz]; decide) (by kernel_rfl))).trans (hF 10 (by decide))
      have kw0 : IntKind.i64.wrap ((K : Int)) = (K : Int) := wrapIn (by omega) (by omega)
      clear hρ hF hcst hfun sl0 sl1 sl5 sl7 fin
      exact opv_val (by go_simp <;> rfl) ⟨gw_self _, rfl⟩
    · refine owes_v (Go.Op.call { callee := Go.Callee.value (Go.Operand.func 100), args := #[Go.Operand.tmp 25, Go.Operand.tmp 26, Go.Operand.tmp 33], argTypes := #[61, 3, 3] }) 160 [3, 4, 11] (by kernel_rfl) (by kernel_rfl) (by kernel_rfl) rfl fun vals w1 ρ hG hF hρ hcst hfun => ?_
      have e25 : ρ (.tmp 25) = .pointer (some ⟨g, 0, none⟩) := ((hρ 25).trans (slotJ [3, 4, 11] (by rw [hsz]; decide) (by kernel_rfl))).trans (hF 3 (by decide))
      have e26 : ρ (.tmp 26) = .int .i64 J := ((hρ 26).trans (slotJ [3, 4, 11] (by rw [hsz]; decide) (by kernel_rfl))).trans (hF 4 (by decide))
      have e33 : ρ (.tmp 33) = .int .i64 K := ((hρ 33).trans (slotJ [3, 4, 11] (by rw [hsz]; decide) (by kernel_rfl))).trans (hF 11 (by decide))
      clear hρ hF hcst sl0 sl1 sl5 sl7 fin
      exact opv_enter (by go_simp <;> rfl) (bytes_k hx.out hr.out hl.out (sp.out.below hG).mem)
    · exact owes_mvj 12 34 (by kernel_rfl) (by kernel_rfl) (by kernel_rfl) (by kernel_rfl) (by rw [hsz]; decide) (fun v w h => h)
    · refine owes_v (Go.Op.extract (Go.Operand.tmp 21) 0) 52 [13] (by kernel_rfl) (by kernel_rfl) (by kernel_rfl) rfl fun vals w1 ρ hG hF hρ hcst hfun => ?_
      have f21 : (BtT xs) (vals 13) w1 := hF 13 (by decide)
      have e21 : ρ (.tmp 21) = vals 13 := (hρ 21).trans (slotJ [13] (by rw [hsz]; decide) (by kernel_rfl))
      obtain ⟨A, c, hx0, hrd⟩ := f21
      rw [hx0] at e21
      clear hρ hF hcst hfun sl0 sl1 sl5 sl7 fin
      exact opv_val (by go_simp <;> rfl) ⟨gw_self _, ⟨A, c, rfl, hrd⟩⟩
    · refine owes_v (Go.Op.extract (Go.Operand.tmp 21) 1) 34 [13] (by kernel_rfl) (by kernel_rfl) (by kernel_rfl) rfl fun vals w1 ρ hG hF hρ hcst hfun => ?_
      have f21 : (BtT xs) (vals 13) w1 := hF 13 (by decide)
      have e21 : ρ (.tmp 21) = vals 13 := (hρ 21).trans (slotJ [13] (by rw [hsz]; decide) (by kernel_rfl))
      obtain ⟨A, c, hx0, hrd⟩ := f21
      rw [hx0] at e21
      clear hρ hF hcst hfun sl0 sl1 sl5 sl7 fin
      exact opv_val (by go_simp <;> rfl) ⟨gw_self _, rfl⟩
    · exact owes_mvj 14 35 (by kernel_rfl) (by kernel_rfl) (by kernel_rfl) (by kernel_rfl) (by rw [hsz]; decide) (fun v w h => h)
    · exact owes_mvj 15 36 (by kernel_rfl) (by kernel_rfl) (by kernel_rfl) (by kernel_rfl) (by rw [hsz]; decide) (fun v w h => h)
  · intro vals w1 hG hF
    exact fin vals w1 hG (hF 16 (by decide +kernel)) (hF 17 (by decide +kernel))
theorem padded_c (w : World) (B s g : Nat) (v : Value) (ws : List (BitVec 64)) (b t e : Nat) (p : SpAt w B s g v ws b t e) (hl : ws.length ≤ 100000) (a : Nat) (h2 : a < t) (hg : goodX (ws.getD a 0#64) (t - a) = true) :
    Calls Try.prog 110 #[.pointer (some ⟨s, 0, none⟩), .int .i64 a, .agg #[.int .i64 (P0 (ws.getD a 0#64) : Int), .int .i64 (B0 (ws.getD a 0#64) : Int), .bool false, .int .i64 0]] w (RetP (.bool (padB ws (8 * (a + 1 + P0 (ws.getD a 0#64)) + B0 (ws.getD a 0#64)) (8 * (a + szX (ws.getD a 0#64)) - (8 * (a + 1 + P0 (ws.getD a 0#64)) + B0 (ws.getD a 0#64))))) w) := by
  obtain ⟨_, hP, hN, hsz, hsh, hroom⟩ := head_of hg
  obtain ⟨P, hP'⟩ : ∃ P, P = P0 (ws.getD a 0#64) := ⟨_, rfl⟩
  obtain ⟨N, hN'⟩ : ∃ P, P = B0 (ws.getD a 0#64) := ⟨_, rfl⟩
  obtain ⟨Z, hZ'⟩ : ∃ P, P = szX (ws.getD a 0#64) := ⟨_, rfl⟩
  rw [← hP'] at hP
  rw [← hN'] at hN
  rw [← hP', ← hN', ← hZ'] at hsz hsh
  rw [← hZ'] at hroom
  rw [← hP', ← hN', ← hZ']
  have htw : t ≤ ws.length := Nat.le_trans p.te p.el
  obtain ⟨J, hJ⟩ : ∃ J, J = 8 * (a + 1 + P) + N := ⟨_, rfl⟩
  obtain ⟨K, hK⟩ : ∃ K, K = 8 * (a + Z) - J := ⟨_, rfl⟩
  rw [← hJ, ← hK]
  unfold padB
  obtain ⟨xs, hxs⟩ : ∃ xs, bytesM ws J K = xs := ⟨_, rfl⟩
  rw [hxs]
  have hxl : xs.length = K := by rw [← hxs]; simp [bytesM]
  obtain ⟨R, hR⟩ : ∃ R, R = xs.all (· == 0#8) := ⟨_, rfl⟩
  rw [← hR]
  have HRR := Lib.hid hR
  clear hR
  have q0 : ((a : Int) + 1 + (P : Int)) * 8 + (N : Int) = (J : Int) := by omega
  have HQ := Lib.hid (show (a : Int) ≤ 100000 ∧ (Z : Int) ≤ 1000 ∧ ((a : Int) + (Z : Int)) * 8 - (J : Int) = (K : Int) ∧ (K : Int) ≤ 1000 ∧ (J : Int) ≤ 1000000 ∧ J + K ≤ 8 * ws.length from by omega)
  have HX := Lib.hid hxs
  have HS := Lib.hid hsh
  have HL := Lib.hid hl
  have HXl := Lib.hid hxl
  have HP := Lib.hid p
  have q1 : (a : Int) ≤ 100000 := by omega
  have q2 : (P : Int) ≤ 64 := by omega
  have q3 : (N : Int) ≤ 1024 := by omega
  have q4 : (0 : Int) ≤ (a : Int) := by omega
  have q5 : (0 : Int) ≤ (P : Int) := by omega
  have q6 : (0 : Int) ≤ (N : Int) := by omega
  have HQ0 := Lib.hid q0
  clear p hl h2 hg hP hN hsz hsh hroom hP' hN' hZ' htw hJ hK hxs hxl q0
  go_enter Try.func110, Try.ntmps110
  go_wp2_with fail
  rw [HQ0.out]
  obtain ⟨w1, hw1⟩ : ∃ w1, w1 = w.alloc (.cells #[.int .i64 P, .int .i64 N, .bool false, .int .i64 0] 112) := ⟨_, rfl⟩
  have hb1 : Below w.heap.size w w1 := by rw [hw1]; exact Gw.alloc w _
  have hk1 : Bk w1 w.heap.size 112 #[.int .i64 P, .int .i64 N, .bool false, .int .i64 0] := by rw [hw1]; exact Bk.new w _ _
  rw [← hw1]
  have HB1 := Lib.hid hb1
  refine pad_r _ _ _ s g w.heap.size B a Z J K b t e P N v ws xs hk1 (Lib.hid (HP.out.below hb1)) HS HX (Lib.hid HQ.out.2.2.2.2.2) HL HQ.out.1 HQ.out.2.1 (Int.natCast_nonneg _) (Int.natCast_nonneg _) HQ.out.2.2.1 HQ.out.2.2.2.1 (Int.natCast_nonneg _) HQ.out.2.2.2.2.1 (Int.natCast_nonneg _) rfl rfl rfl rfl rfl ?_
  intro vals w2 hG h8 h9
  obtain ⟨A, c, e8, hrd⟩ := h8
  unfold IsV at h9
  simp only [putD, Act.put, List.setIfInBounds_toArray, List.set_cons_zero, List.set_cons_succ, e8, h9]
  rw [HXl.out]
  have HB2 := Lib.hid (HB1.out.trans (hG.mono HB1.out.size))
  have HR := Lib.hid hrd
  have qK : (K : Int) ≤ 1000 := HQ.out.2.2.2.1
  clear hG e8 h9 hrd hk1 hw1 hb1
  go_wp2_with fail
  go_loopw [41, 11] (fun i y W => ∃ k : Nat, i = .int .i64 k ∧ k ≤ K ∧ Hid ((xs.take k).all (· == 0#8) = true) ∧ W = w2) (fun i _ _ => K - (Go.RowKit.intOf i).toNat)
  case atStart => exact ⟨0, rfl, Nat.zero_le _, Lib.hid rfl, rfl⟩
  case round =>
    obtain ⟨k, rfl, hk, hz, rfl⟩ := hrel
    by_cases hlt : k < K
    · have hkx : k < xs.length := by rw [HXl.out]; exact hlt
      obtain ⟨y, hy⟩ : ∃ y, y = xs[k] := ⟨_, rfl⟩
      obtain ⟨ad, rfl, _, hc⟩ := HR.out k hkx
      rw [← hy] at hc
      unfold b8 at hc
      have p1 : (0 : Int) ≤ (k : Int) := by omega
      have p2 : (k : Int) < (K : Int) := by omega
      by_cases hy0 : y = 0#8
      · have hU : U8 y = 0 := by rw [hy0]; decide +kernel
        rw [hU] at hc
        have HZ := Lib.hid (show (xs.take (k + 1)).all (· == 0#8) = true from by
          rw [List.take_succ_eq_append_getElem hkx, List.all_append, hz.out, ← hy, hy0]; rfl)
        clear hy hU hy0 hkx
        go_wp2_with fail
        clear hc
        go_roundw
        case rel => first | exact ⟨k + 1, by go_num, by omega, HZ, rfl⟩ | exact ⟨k + 1, by go_num, by omega, HZ, trivial⟩ | exact ⟨k + 1, by go_num, by omega, HZ⟩
        case measure => simp [Go.RowKit.intOf]; omega
      · have hU1 : (U8 y == 0) = false := by
          have : U8 y ≠ 0 := fun e => hy0 (by
            unfold U8 at e
            exact BitVec.eq_of_toNat_eq (by simpa using e))
          simpa using this
        have hU2 : (U8 y != 0) = true := by unfold bne; rw [hU1]; rfl
        have hRf : R = false := by
          rw [HRR.out]
          cases h : xs.all (· == 0#8) with
          | false => rfl
          | true =>
            have := List.all_eq_true.1 h y (by rw [hy]; exact List.getElem_mem _)
            exact absurd (by simpa using this) hy0
        subst hRf
        clear hy hy0 hkx
        go_wp2_with fail
        go_ret
        exact ⟨rfl, HB2.out⟩
    · have hkK : k = K := by omega
      have hRt : R = true := by
        rw [HRR.out, ← hz.out, hkK, List.take_of_length_le (by rw [HXl.out]; exact Nat.le_refl _)]
      subst hRt
      clear hz hkK
      go_wp2_with fail
      go_ret
      exact ⟨rfl, HB2.out⟩
end Go.Proofs.Ytkkjnahjmomjgaa
/- obj.Well. Conditions: lengths. -/
namespace Go.Proofs.Ytkkjnahjmomjgaa
set_option linter.unusedVariables false
set_option linter.unusedSimpArgs false
open Go.RowKit Go.Maps
section
variable {ops : Array Oper} {rest : List Oper} {o : Oper} {a : Act} {w : World} {Q : Exit → Act → World → Prop} {b : Nat} {m : List Int}
theorem wp_putI (hg : o.guard = none) (mm x v : Operand) (hop : o.op = Op.mapUpdate 173 mm x v)
    (hm : a.eval mm = .map (some b)) (h : SetI w b m) (p : Int) (hx : a.eval x = .int .i64 p) (hv : a.eval v = .agg #[]) (hp : kW p) (hl : m.length ≤ 1000000)
    (hK : ∀ w', SetI w' b (addS m p) → Kept (fun c => some b = some c) w w' → wpList Try.prog ops Q rest (a.put o.dst undef) w') : wpList Try.prog ops Q (o :: rest) a w := by
  refine wpList_plain hg fun K' hK' => ?_
  obtain ⟨w', hrun, r1, r2⟩ := h.put hp (by unfold maxLen; omega)
  unfold Oper.wp
  simp [execOp, hop, hm, hx, hv, hrun, Result.andThen]
  exact hK' _ _ (hK w' r1 r2)
end
theorem mk_set (W : World) (n : Int) : (Instr.makeMap 173 (some (.int .i64 n))).run Try.prog W = .ok (.map (some W.heap.size)) (W.alloc (.map #[] 0)) := by
  simp [Instr.makeMap, run_underlying Try.underlying173, asInt, asIntOf, Result.andThen]
theorem mem_addS {m : List Int} {p q : Int} : q ∈ addS m p ↔ q ∈ m ∨ q = p := by
  unfold addS
  split
  · rename_i h
    constructor
    · exact .inl
    · rintro (h1 | rfl)
      · exact h1
      · exact h
  · rw [List.mem_append, List.mem_singleton]
theorem addS_len {m : List Int} {p : Int} : (addS m p).length ≤ m.length + 1 := by
  unfold addS
  split
  · omega
  · rw [List.length_append]; exact Nat.le_refl _
theorem objF_mem {ws : List (BitVec 64)} {top : Nat} : ∀ (n a : Nat) (l : List Nat), objF ws top n a = some l → ∀ x ∈ l, a ≤ x ∧ x < top ∧ goodX (ws.getD x 0#64) (top - x) = true
  | 0, a, l, h, x, hx => by injection h with h; subst h; cases hx
  | n + 1, a, l, h, x, hx => by
    have e : objF ws top (n + 1) a = if a < top then (if goodX (ws.getD a 0#64) (top - a) = true then (objF ws top n (a + szX (ws.getD a 0#64))).map (a :: ·) else none) else some [] := rfl
    rw [e] at h
    by_cases c : a < top
    · rw [if_pos c] at h
      by_cases d : goodX (ws.getD a 0#64) (top - a) = true
      · rw [if_pos d] at h
        cases hr : objF ws top n (a + szX (ws.getD a 0#64)) with
        | none => rw [hr] at h; cases h
        | some r =>
          rw [hr] at h
          injection h with h
          subst h
          rcases List.mem_cons.1 hx with rfl | hx
          · exact ⟨Nat.le_refl _, c, d⟩
          · have := objF_mem n _ r hr x hx
            exact ⟨by omega, this.2⟩
      · rw [if_neg d] at h; cases h
    · rw [if_neg c] at h
      injection h with h
      subst h
      cases hx
theorem objF_len {ws : List (BitVec 64)} {top : Nat} : ∀ (n a : Nat) (l : List Nat), objF ws top n a = some l → l.length ≤ n
  | 0, a, l, h => by injection h with h; subst h; exact Nat.le_refl _
  | n + 1, a, l, h => by
    have e : objF ws top (n + 1) a = if a < top then (if goodX (ws.getD a 0#64) (top - a) = true then (objF ws top n (a + szX (ws.getD a 0#64))).map (a :: ·) else none) else some [] := rfl
    rw [e] at h
    by_cases c : a < top
    · rw [if_pos c] at h
      by_cases d : goodX (ws.getD a 0#64) (top - a) = true
      · rw [if_pos d] at h
        cases hr : objF ws top n (a + szX (ws.getD a 0#64)) with
        | none => rw [hr] at h; cases h
        | some r =>
          rw [hr] at h
          injection h with h
          subst h
          have := objF_len n _ r hr
          rw [List.length_cons]; omega
      · rw [if_neg d] at h; cases h
    · rw [if_neg c] at h
      injection h with h
      subst h
      exact Nat.zero_le _
/-- Does pointer k of the object at a place lead to one of some, or nowhere? -/
def ptrN (ws : List (BitVec 64)) (l : List Nat) (a k : Nat) : Bool := decide ((ws.getD (a + 1 + k) 0#64).toNat = 0 ∨ (1 ≤ (ws.getD (a + 1 + k) 0#64).toNat ∧ (ws.getD (a + 1 + k) 0#64).toNat - 1 ∈ l))
def padN (ws : List (BitVec 64)) (a : Nat) : Bool := padB ws (8 * (a + 1 + P0 (ws.getD a 0#64)) + B0 (ws.getD a 0#64)) (8 * (a + szX (ws.getD a 0#64)) - (8 * (a + 1 + P0 (ws.getD a 0#64)) + B0 (ws.getD a 0#64)))
def wellN (ws : List (BitVec 64)) (l : List Nat) (a : Nat) : Bool := (List.range (P0 (ws.getD a 0#64))).all (ptrN ws l a) && padN ws a
def wellE (ws : List (BitVec 64)) (b t : Nat) : Int := match objF ws t (t + 1) b with
  | none => 2
  | some l => if l.all (wellN ws l) = true then 0 else 2
theorem well_none {ws : List (BitVec 64)} {b t : Nat} (h : objF ws t (t + 1) b = none) : wellE ws b t = 2 := by unfold wellE; rw [h]
theorem well_some {ws : List (BitVec 64)} {b t : Nat} {l : List Nat} (h : objF ws t (t + 1) b = some l) : wellE ws b t = if l.all (wellN ws l) = true then 0 else 2 := by unfold wellE; rw [h]
theorem all_no {α : Type} {f : α → Bool} {l : List α} {x : α} (hx : x ∈ l) (h : f x = false) : ¬ l.all f = true := fun e => by
  have := List.all_eq_true.1 e x hx
  rw [h] at this; cases this
set_option maxHeartbeats 4000000
set_option maxRecDepth 100000
theorem well_c (w : World) (B s g : Nat) (v : Value) (ws : List (BitVec 64)) (b t e : Nat) (p : SpAt w B s g v ws b t e) (hl : ws.length ≤ 8192) :
    Calls Try.prog 98 #[.pointer (some ⟨s, 0, none⟩)] w (RetP (.int .i64 (wellE ws b t)) w) := by
  have HOb := Lib.hid (objects_c w B s g v ws b t e p (by omega))
  obtain ⟨R, hR⟩ : ∃ R, R = wellE ws b t := ⟨_, rfl⟩
  rw [← hR]
  have HR := Lib.hid hR
  have HP := Lib.hid p
  have HL := Lib.hid hl
  have HT := Lib.hid (show t ≤ 8192 from by have := p.te; have := p.el; omega)
  clear hR p hl
  cases ho : objF ws t (t + 1) b with
  | none =>
    rw [ho] at HOb
    have HOb2 := Lib.hid (show Calls Try.prog 97 #[.pointer (some ⟨s, 0, none⟩)] w (RetP (.tuple #[.slice none 0 0, .int .i64 2]) w) from HOb.out)
    obtain rfl : R = 2 := by rw [HR.out]; exact well_none ho
    clear HOb ho HR
    go_enter Try.func98, Try.ntmps98
    go_wp2_with fail
    refine Calls.mono HOb2.out ?_
    rintro r w2 ⟨rfl, b2⟩
    have HB2 := Lib.hid b2
    clear b2
    go_wp2_with fail
    go_ret
    exact ⟨rfl, HB2.out⟩
  | some l =>
    rw [ho] at HOb
    have HOb2 := Lib.hid (show Calls Try.prog 97 #[.pointer (some ⟨s, 0, none⟩)] w (MkEP iN 3 l 0 w) from HOb.out)
    have HRl := Lib.hid (show R = if l.all (wellN ws l) = true then 0 else 2 from by rw [HR.out]; exact well_some ho)
    have HMem := Lib.hid (objF_mem _ _ _ ho)
    have hlen := objF_len _ _ _ ho
    obtain ⟨N, hN⟩ : ∃ N, N = l.length := ⟨_, rfl⟩
    have qN : (N : Int) ≤ 8193 := by have := HT.out; omega
    have HN := Lib.hid hN
    clear HOb ho HR hlen hN
    go_enter Try.func98, Try.ntmps98
    go_wp2_with fail
    refine Calls.mono HOb2.out ?_
    rintro r w2 ⟨A, c, rfl, hc, ho, b2⟩
    have HB2 := Lib.hid b2
    have HRd := Lib.hid ho.rd
    rw [← HN.out]
    clear hc ho b2
    have hmk := mk_set w2 (N : Int)
    go_wp2_with fail
    clear hmk
    obtain ⟨mb, hmb⟩ : ∃ mb, mb = w2.heap.size := ⟨_, rfl⟩
    obtain ⟨w3, hw3⟩ : ∃ w3, w3 = w2.alloc (.map #[] 0) := ⟨_, rfl⟩
    have hb3 : Below w2.heap.size w2 w3 := by rw [hw3]; exact Gw.alloc w2 _
    have hs3 : SetI w3 mb [] := by rw [hw3, hmb]; exact SetI.made w2
    rw [← hmb, ← hw3]
    have H3 := Lib.hid (And.intro hb3 (And.intro hs3 hmb))
    clear hmb hw3 hb3 hs3
    go_loopw [30] (fun i W => ∃ k : Nat, i = .int .i64 k ∧ k ≤ N ∧ Hid (Below w2.heap.size w2 W ∧ ∃ M, SetI W mb M ∧ (∀ x : Int, x ∈ M ↔ ∃ y ∈ l.take k, x = (y : Int)) ∧ M.length ≤ k)) (fun i _ => N - (Go.RowKit.intOf i).toNat)
    case atStart => exact ⟨0, rfl, Nat.zero_le _, Lib.hid ⟨H3.out.1, [], H3.out.2.1, fun x => by simp, Nat.zero_le _⟩⟩
    case round =>
      obtain ⟨k, rfl, hk, hS⟩ := hrel
      by_cases hlt : k < N
      · have hkl : k < l.length := by rw [← HN.out]; exact hlt
        obtain ⟨y, hy⟩ : ∃ y, y = l[k] := ⟨_, rfl⟩
        obtain ⟨hb, M, hM, hMi, hMl⟩ := hS.out
        obtain ⟨ad, rfl, _, hc⟩ := (HRd.out.below hb) k hkl
        rw [← hy] at hc
        unfold iN at hc
        have hyt := (HMem.out y (by rw [hy]; exact List.getElem_mem _)).2.1
        have hkw : kW (y : Int) := wfI (by omega) (by have := HT.out; omega)
        have HK := Lib.hid (And.intro hkw (show M.length ≤ 1000000 from by omega))
        have HSt := Lib.hid hM
        have HNx := Lib.hid (show ∀ (W : World), Kept (fun c => some mb = some c) wr W → SetI W mb (addS M (y : Int)) → (Below w2.heap.size w2 W ∧ ∃ M, SetI W mb M ∧ (∀ x : Int, x ∈ M ↔ ∃ z ∈ l.take (k + 1), x = (z : Int)) ∧ M.length ≤ k + 1) from fun W hk2 hs2 => by
          refine ⟨hb.trans (hk2.below hb.size (fun c e => by injection e with e; have := H3.out.2.2; omega)), _, hs2, fun x => ?_, Nat.le_trans addS_len (by omega)⟩
          rw [mem_addS, hMi, List.take_succ_eq_append_getElem hkl, ← hy]
          constructor
          · rintro (⟨z, hz, rfl⟩ | rfl)
            · exact ⟨z, List.mem_append.2 (.inl hz), rfl⟩
            · exact ⟨y, by simp, rfl⟩
          · rintro ⟨z, hz, rfl⟩
            rcases List.mem_append.1 hz with hz | hz
            · exact .inl ⟨z, hz, rfl⟩
            · right; rw [List.mem_singleton.1 hz])
        have p1 : (0 : Int) ≤ (k : Int) := by omega
        have p2 : (k : Int) < (N : Int) := by omega
        clear hy hb hM hMi hMl hyt hkw hkl
        go_wp2_with (at_mapUpdate; refine wp_putI rfl (.tmp 34) (.tmp 35) (.tmp 36) rfl rfl HSt.out (y : Int) rfl rfl HK.out.1 HK.out.2 ?_; intro w8 h8 k8; have HX := Lib.hid (HNx.out w8 k8 h8); clear h8 k8)
        clear hc
        go_roundw
        case rel => first | exact ⟨k + 1, by go_num, by omega, HX⟩ | exact ⟨_, ⟨k + 1, by go_num, by omega, HX⟩, rfl⟩
        case measure => simp [Go.RowKit.intOf]; omega
      · have hkN : k = N := by omega
        obtain ⟨hb, M, hM, hMi, hMl⟩ := hS.out
        rw [hkN, List.take_of_length_le (by rw [← HN.out]; exact Nat.le_refl _)] at hMi
        obtain ⟨w5, hw5⟩ : ∃ w5, w5 = wr := ⟨_, rfl⟩
        rw [← hw5] at hb hM ⊢
        have H5 := Lib.hid (And.intro (HB2.out.trans (hb.mono HB2.out.size)) (And.intro hM hMi))
        have HRd5 := Lib.hid (HRd.out.below hb)
        have hw2 := hb.size
        clear hS hb hM hMi hMl hkN hw5
        go_wp2_with fail
        clear hlt hk
        go_loopw [40] (fun i W => ∃ k : Nat, i = .int .i64 k ∧ k ≤ N ∧ Hid ((l.take k).all (wellN ws l) = true) ∧ Hid (Below w5.heap.size w5 W)) (fun i _ => N - (Go.RowKit.intOf i).toNat)
        case atStart => exact ⟨0, rfl, Nat.zero_le _, Lib.hid rfl, Lib.hid (Below.refl _ _)⟩
        case round =>
          obtain ⟨k, rfl, hk, hW, hB⟩ := hrel
          by_cases hlt : k < N
          · have hkl : k < l.length := by rw [← HN.out]; exact hlt
            obtain ⟨a, ha⟩ : ∃ a, a = l[k] := ⟨_, rfl⟩
            have ham : a ∈ l := by rw [ha]; exact List.getElem_mem _
            obtain ⟨hab, hat, hag⟩ := HMem.out a ham
            obtain ⟨ad, rfl, _, hc⟩ := (HRd5.out.below (hB.out.mono hw2)) k hkl
            rw [← ha] at hc
            unfold iN at hc
            have HLk := Lib.hid (look_ok wr B s g v ws b t e (HP.out.below (H5.out.1.trans (hB.out.mono H5.out.1.size))) (by have := HL.out; omega) a hab hat hag)
            have HPt := Lib.hid (fun W (hb : Below w5.heap.size w5 W) (j : Nat) (hj : j < P0 (ws.getD a 0#64)) => Ptr_c W B s g v ws b t e (HP.out.below (H5.out.1.trans (hb.mono H5.out.1.size))) HL.out a j hab hat hag hj)
            have HPd := Lib.hid (fun W (hb : Below w5.heap.size w5 W) => padded_c W B s g v ws b t e (HP.out.below (H5.out.1.trans (hb.mono H5.out.1.size))) (by have := HL.out; omega) a hat hag)
            have HTk := Lib.hid (show l.take (k + 1) = l.take k ++ [a] from by rw [List.take_succ_eq_append_getElem hkl, ha])
            obtain ⟨PD, hPD⟩ : ∃ q, q = padN ws a := ⟨_, rfl⟩
            have hpd0 : padB ws (8 * (a + 1 + P0 (ws.getD a 0#64)) + B0 (ws.getD a 0#64)) (8 * (a + szX (ws.getD a 0#64)) - (8 * (a + 1 + P0 (ws.getD a 0#64)) + B0 (ws.getD a 0#64))) = PD := by rw [hPD]; rfl
            rw [hpd0] at HPd
            have hPb := (head_of hag).2.1
            obtain ⟨P, hP'⟩ : ∃ P, P = P0 (ws.getD a 0#64) := ⟨_, rfl⟩
            obtain ⟨BN, hN'⟩ : ∃ P, P = B0 (ws.getD a 0#64) := ⟨_, rfl⟩
            have hwn : wellN ws l a = ((List.range P).all (ptrN ws l a) && PD) := by rw [hP', hPD]; rfl
            have HWn := Lib.hid (And.intro hwn ham)
            rw [← hP', ← hN'] at HLk HPd
            rw [← hP'] at HPt hPb
            have p1 : (0 : Int) ≤ (k : Int) := by omega
            have p2 : (k : Int) < (N : Int) := by omega
            have q3 : (P : Int) ≤ 64 := by omega
            clear ha ham hab hat hag hPD hpd0 hPb hP' hN' hwn hkl
            go_wp2_with fail
            refine Calls.mono HLk.out ?_
            rintro r w6 ⟨rfl, b6⟩
            have HB6 := Lib.hid (hB.out.trans (b6.mono hB.out.size))
            clear b6 hc
            go_wp2_with fail
            obtain ⟨hx, hhx⟩ : ∃ hx, hx = w6.heap.size := ⟨_, rfl⟩
            obtain ⟨w7, hw7⟩ : ∃ w7, w7 = w6.alloc (.cells #[.int .i64 P, .int .i64 BN, .bool false, .int .i64 0] 112) := ⟨_, rfl⟩
            have hb7 : Below w6.heap.size w6 w7 := by rw [hw7]; exact Gw.alloc w6 _
            have hk7 : Bk w7 hx 112 #[.int .i64 P, .int .i64 BN, .bool false, .int .i64 0] := by rw [hw7, hhx]; exact Bk.new w6 _ _
            rw [← hhx, ← hw7]
            have H7 := Lib.hid (And.intro (HB6.out.trans (hb7.mono HB6.out.size)) hk7)
            clear hhx hw7 hb7 hk7
            go_loopw [55] (fun i W => ∃ j : Nat, i = .int .i64 j ∧ j ≤ P ∧ Hid ((List.range j).all (ptrN ws l a) = true) ∧ Hid (Below w7.heap.size w7 W)) (fun i _ => P - (Go.RowKit.intOf i).toNat)
            case atStart => exact ⟨0, rfl, Nat.zero_le _, Lib.hid rfl, Lib.hid (Below.refl _ _)⟩
            case round =>
              clear hlt hk
              obtain ⟨j, rfl, hj, hA, hB7⟩ := hrel
              by_cases hjt : j < P
              · have HB5 := Lib.hid (H7.out.1.trans (hB7.out.mono H7.out.1.size))
                have HC := Lib.hid (HPt.out wr HB5.out j hjt)
                obtain ⟨y, hy⟩ : ∃ y, y = ws.getD (a + 1 + j) 0#64 := ⟨_, rfl⟩
                rw [← hy] at HC
                have hpn : ptrN ws l a j = decide (y.toNat = 0 ∨ (1 ≤ y.toNat ∧ y.toNat - 1 ∈ l)) := by unfold ptrN; rw [← hy]
                have HPn := Lib.hid hpn
                have HRg := Lib.hid (show (List.range (j + 1)).all (ptrN ws l a) = ptrN ws l a j from by rw [List.range_succ, List.all_append, hA.out]; simp)
                have HNo := Lib.hid (show ptrN ws l a j = false → R = 2 from fun h => by
                  rw [HRl.out, if_neg (all_no HWn.out.2 ?_)]
                  rw [HWn.out.1, Bool.and_eq_false_iff]
                  left
                  cases h2 : (List.range P).all (ptrN ws l a) with
                  | false => rfl
                  | true =>
                    have := List.all_eq_true.1 h2 j (List.mem_range.2 hjt)
                    rw [h] at this; cases this)
                have p3 : (0 : Int) ≤ (j : Int) := by omega
                have p4 : (j : Int) < (P : Int) := by omega
                clear hy hpn
                cases hpk : pokB b t y with
                | false =>
                  rw [(pt_no hpk).1, (pt_no hpk).2] at HC
                  obtain rfl : R = 2 := HNo.out (by
                    rw [HPn.out, decide_eq_false_iff_not]
                    rintro (h | ⟨h1, h2⟩)
                    · unfold pokB at hpk; simp [h] at hpk
                    · have := HMem.out _ h2
                      unfold pokB at hpk
                      rw [decide_eq_false_iff_not] at hpk
                      omega)
                  clear hpk
                  go_wp2_with fail
                  refine Calls.mono HC.out ?_
                  rintro r w8 ⟨rfl, b8⟩
                  have HB8 := Lib.hid (HB5.out.trans (b8.mono HB5.out.size))
                  clear b8
                  go_wp2_with fail
                  go_ret
                  exact ⟨rfl, H5.out.1.trans (HB8.out.mono H5.out.1.size)⟩
                | true =>
                  rw [(pt_yes hpk).1, (pt_yes hpk).2] at HC
                  obtain ⟨n, hn⟩ : ∃ n, n = y.toNat := ⟨_, rfl⟩
                  rw [← hn] at HC HPn
                  have hpk2 : n = 0 ∨ (b < n ∧ n ≤ t) := by
                    unfold pokB at hpk
                    rw [← hn] at hpk
                    exact of_decide_eq_true hpk
                  have hnt : n ≤ 8192 := by have := HT.out; omega
                  obtain ⟨d, hd⟩ : ∃ d, d = decide (((n : Int) - 1) ∈ M) := ⟨_, rfl⟩
                  have HLo := Lib.hid (fun W (hb : Below w5.heap.size w5 W) => (H5.out.2.1.below hb).look (p := (n : Int) - 1) (wfI (by omega) (by omega)))
                  rw [← hd] at HLo
                  have HD := Lib.hid (show ((n : Int) - 1) ∈ M ↔ (1 ≤ n ∧ n - 1 ∈ l) from by
                    rw [H5.out.2.2]
                    constructor
                    · rintro ⟨z, hz, e⟩
                      have : n = z + 1 := by omega
                      subst this
                      exact ⟨by omega, by simpa using hz⟩
                    · rintro ⟨h1, h2⟩
                      exact ⟨n - 1, h2, by omega⟩)
                  have HDd := Lib.hid hd
                  clear hn hpk hpk2 hd
                  go_wp2_with fail
                  refine Calls.mono HC.out ?_
                  rintro r w8 ⟨rfl, b8⟩
                  have HB8 := Lib.hid (HB5.out.trans (b8.mono HB5.out.size))
                  have HB78 := Lib.hid (hB7.out.trans (b8.mono hB7.out.size))
                  have hlk := HLo.out w8 HB8.out
                  have hhz := HB8.out.size
                  clear b8
                  by_cases hn0 : n = 0
                  · subst hn0
                    have hd0 : d = false := by
                      rw [HDd.out, decide_eq_false_iff_not, HD.out]; omega
                    subst hd0
                    have hok := (HRg.out.trans HPn.out)
                    have HOk := Lib.hid (show (List.range (j + 1)).all (ptrN ws l a) = true from by rw [hok]; simp)
                    clear hok hnt hjt
                    have hlk2 : (Instr.lookup 173 (.map (some mb)) (.int .i64 (-1)) true).run Try.prog w8 = .ok (.tuple #[.agg #[], .bool false]) w8 := hlk
                    clear hlk
                    go_wp2_with fail
                    have HB9 := Lib.hid (show Below w7.heap.size w7 (w8.alloc (.cells #[] 174)) from HB78.out.trans ((Gw.alloc w8 _).mono HB78.out.size))
                    clear hlk2
                    go_roundw
                    case rel => exact ⟨j + 1, by go_num, by omega, HOk, HB9⟩
                    case measure => simp [Go.RowKit.intOf]; omega
                  · obtain ⟨m, hm⟩ : ∃ m : Nat, (n : Int) - 1 = (m : Int) := ⟨n - 1, by omega⟩
                    have q1 : ((m : Int) == -1) = false := by simp
                    have q2 : ((m : Int) != -1) = true := by simp
                    have hpd : ptrN ws l a j = d := by
                      rw [HPn.out, HDd.out, decide_eq_decide, HD.out]
                      constructor
                      · rintro (h | h)
                        · exact absurd h hn0
                        · exact h
                      · exact .inr
                    rw [hm] at hlk ⊢
                    cases d with
                    | true =>
                      have HOk := Lib.hid (show (List.range (j + 1)).all (ptrN ws l a) = true from by rw [HRg.out, hpd])
                      clear hpd hm hn0 hnt hjt
                      go_wp2_with fail
                      have HB9 := Lib.hid (show Below w7.heap.size w7 (w8.alloc (.cells #[] 174)) from HB78.out.trans ((Gw.alloc w8 _).mono HB78.out.size))
                      clear hlk q1 q2
                      go_roundw
                      case rel => exact ⟨j + 1, by go_num, by omega, HOk, HB9⟩
                      case measure => simp [Go.RowKit.intOf]; omega
                    | false =>
                      obtain rfl : R = 2 := HNo.out hpd
                      clear hpd hm hn0 hnt hjt
                      go_wp2_with fail
                      have HB9 := Lib.hid (HB8.out.trans ((Gw.alloc w8 (.cells #[] 174)).mono HB8.out.size))
                      clear hlk q1 q2
                      go_ret
                      exact ⟨rfl, H5.out.1.trans (HB9.out.mono H5.out.1.size)⟩
              · have hjP : j = P := by omega
                have HAl := Lib.hid (show (List.range P).all (ptrN ws l a) = true from by rw [← hjP]; exact hA.out)
                have HB5 := Lib.hid (H7.out.1.trans (hB7.out.mono H7.out.1.size))
                have hk8 := H7.out.2.below hB7.out H7.out.2.lt
                obtain ⟨d0, d1, d2, d3⟩ := hk8.four
                clear hA hk8 hjP
                go_wp2_with fail
                refine Calls.mono (HPd.out wr HB5.out) ?_
                rintro r w8 ⟨rfl, b8⟩
                have HB8 := Lib.hid (HB5.out.trans (b8.mono HB5.out.size))
                clear b8 d0 d1 d2 d3
                cases PD with
                | true =>
                  have HX := Lib.hid (show (l.take (k + 1)).all (wellN ws l) = true from by
                    rw [HTk.out, List.all_append, hW.out, Bool.true_and, List.all_cons, List.all_nil, Bool.and_true, HWn.out.1, HAl.out]; rfl)
                  go_wp2_with fail
                  go_roundw
                  case rel => exact ⟨k + 1, by go_num, by omega, HX, HB8⟩
                  case measure => simp [Go.RowKit.intOf]; omega
                | false =>
                  obtain rfl : R = 2 := by
                    rw [HRl.out, if_neg (all_no HWn.out.2 ?_)]
                    rw [HWn.out.1, Bool.and_false]
                  go_wp2_with fail
                  go_ret
                  exact ⟨rfl, H5.out.1.trans (HB8.out.mono H5.out.1.size)⟩
          · have hkN : k = N := by omega
            obtain rfl : R = 0 := by
              have h := hW.out
              rw [hkN, List.take_of_length_le (by rw [← HN.out]; exact Nat.le_refl _)] at h
              rw [HRl.out, if_pos h]
            clear hkN
            go_wp2_with fail
            go_ret
            exact ⟨rfl, H5.out.1.trans (hB.out.mono H5.out.1.size)⟩
end Go.Proofs.Ytkkjnahjmomjgaa
/- What is wrong of objects (pure). No conditions. -/
namespace Go.Proofs.Ytkkjnahjmomjgaa
set_option linter.unusedVariables false
set_option linter.unusedSimpArgs false
open Go.RowKit
def headS : ByteArray := ⟨#[104, 101, 97, 100]⟩
def ptrS : ByteArray := ⟨#[112, 116, 114]⟩
def padS : ByteArray := ⟨#[112, 97, 100]⟩
/-- Objects from a place on, and where the walk ends for want of one. -/
def foundN (ws : List (BitVec 64)) (top : Nat) : Nat → Nat → List Nat × Option Nat
  | 0, _ => ([], none)
  | n + 1, a => if a < top then (if goodX (ws.getD a 0#64) (top - a) = true then (a :: (foundN ws top n (a + szX (ws.getD a 0#64))).1, (foundN ws top n (a + szX (ws.getD a 0#64))).2) else ([], some a)) else ([], none)
/-- What is wrong of the pointers of an object, from the k-th on. -/
def ptrF (ws : List (BitVec 64)) (p : List Nat) (a : Nat) : Nat → Nat → List (Nat × ByteArray)
  | 0, _ => []
  | n + 1, k => if ptrN ws p a k = true then ptrF ws p a n (k + 1) else (a + 1 + k, ptrS) :: ptrF ws p a n (k + 1)
def padF (ws : List (BitVec 64)) (a : Nat) : List (Nat × ByteArray) := if padN ws a = true then [] else [(a + szX (ws.getD a 0#64) - 1, padS)]
def objE (ws : List (BitVec 64)) (p : List Nat) (a : Nat) : List (Nat × ByteArray) := ptrF ws p a (P0 (ws.getD a 0#64)) 0 ++ padF ws a
def allE (ws : List (BitVec 64)) (p : List Nat) : List Nat → List (Nat × ByteArray)
  | [] => []
  | a :: r => objE ws p a ++ allE ws p r
def badF : Option Nat → List (Nat × ByteArray)
  | none => []
  | some x => [(x, headS)]
def spaceF (ws : List (BitVec 64)) (b t : Nat) : List (Nat × ByteArray) := badF (foundN ws t (t + 1) b).2 ++ allE ws (foundN ws t (t + 1) b).1 (foundN ws t (t + 1) b).1
theorem ptrF_nil (ws : List (BitVec 64)) (p : List Nat) (a : Nat) : ∀ n k, ptrF ws p a n k = [] ↔ ∀ i, k ≤ i → i < k + n → ptrN ws p a i = true
  | 0, k => ⟨fun _ i h1 h2 => by omega, fun _ => rfl⟩
  | n + 1, k => by
    unfold ptrF
    by_cases h : ptrN ws p a k = true
    · rw [if_pos h, ptrF_nil ws p a n (k + 1)]
      constructor
      · intro h2 i h3 h4
        by_cases e : i = k
        · rw [e]; exact h
        · exact h2 i (by omega) (by omega)
      · intro h2 i h3 h4
        exact h2 i (by omega) (by omega)
    · rw [if_neg h]
      constructor
      · intro h2; cases h2
      · intro h2; exact absurd (h2 k (Nat.le_refl _) (by omega)) h
theorem objE_nil (ws : List (BitVec 64)) (p : List Nat) (a : Nat) : objE ws p a = [] ↔ wellN ws p a = true := by
  unfold objE wellN
  rw [List.append_eq_nil_iff, ptrF_nil, Bool.and_eq_true, List.all_eq_true]
  constructor
  · rintro ⟨h1, h2⟩
    refine ⟨fun i hi => h1 i (Nat.zero_le _) (by have := List.mem_range.1 hi; omega), ?_⟩
    unfold padF at h2
    by_cases h : padN ws a = true
    · exact h
    · rw [if_neg h] at h2; cases h2
  · rintro ⟨h1, h2⟩
    refine ⟨fun i _ hi => h1 i (List.mem_range.2 (by omega)), ?_⟩
    unfold padF
    rw [if_pos h2]
theorem allE_nil (ws : List (BitVec 64)) (p : List Nat) : ∀ r, allE ws p r = [] ↔ r.all (wellN ws p) = true
  | [] => ⟨fun _ => rfl, fun _ => rfl⟩
  | a :: r => by
    unfold allE
    rw [List.append_eq_nil_iff, objE_nil, allE_nil ws p r, List.all_cons, Bool.and_eq_true]
end Go.Proofs.Ytkkjnahjmomjgaa
/- A graph's words: the objects in them (pure). Conditions: a graph that Check lets. -/
namespace Go.Proofs.Ytkkjnahjmomjgaa
set_option linter.unusedVariables false
set_option linter.unusedSimpArgs false
open Go.RowKit
set_option maxHeartbeats 1000000
theorem leN_bit : ∀ (l : List (BitVec 8)) (i : Nat), i < 64 → (leN l).getLsbD i = (l.getD (i / 8) 0#8).getLsbD (i % 8)
  | [], i, _ => by unfold leN; simp
  | b :: r, i, h => by
    unfold leN
    rw [BitVec.getLsbD_or, BitVec.getLsbD_shiftLeft, BitVec.getLsbD_setWidth]
    by_cases h8 : i < 8
    · have e1 : i / 8 = 0 := by omega
      have e2 : i % 8 = i := by omega
      rw [e1, e2, List.getD_cons_zero]
      simp [h8, h]
    · obtain ⟨q, hq⟩ : ∃ q, i / 8 = q + 1 := ⟨i / 8 - 1, by omega⟩
      rw [hq, List.getD_cons_succ, leN_bit r (i - 8) (by omega), show (i - 8) / 8 = q from by omega, show (i - 8) % 8 = i % 8 from by omega]
      have e3 : b.getLsbD i = false := BitVec.getLsbD_of_ge _ _ (by omega)
      simp [h8, h, e3]
theorem byte_leN {ws : List (BitVec 64)} {q r : Nat} {l : List (BitVec 8)} (hr : r < 8) (h : ws.getD q 0#64 = leN l) : byteAt ws (8 * q + r) = l.getD r 0#8 := by
  apply BitVec.eq_of_getLsbD_eq
  intro i hi
  rw [byteAt_bit _ _ _ hi, show (8 * q + r) / 8 = q from by omega, show (8 * q + r) % 8 = r from by omega, h, leN_bit _ _ (by omega), show (8 * r + i) / 8 = r from by omega, show (8 * r + i) % 8 = i from by omega]
theorem wordsN_get (bs : List (BitVec 8)) {k i : Nat} (h : i < k) : (wordsN bs k).getD i 0#64 = leN ((bs.drop (8 * i)).take 8) := by
  unfold wordsN
  rw [List.getD_eq_getElem?_getD, List.getElem?_map, List.getElem?_range h]
  rfl
theorem take_getD (l : List (BitVec 8)) {n r : Nat} (h : r < n) : (l.take n).getD r 0#8 = l.getD r 0#8 := by
  rw [List.getD_eq_getElem?_getD, List.getElem?_take, if_pos h, List.getD_eq_getElem?_getD]
theorem drop_getD (l : List (BitVec 8)) (n r : Nat) : (l.drop n).getD r 0#8 = l.getD (n + r) 0#8 := by
  rw [List.getD_eq_getElem?_getD, List.getElem?_drop, List.getD_eq_getElem?_getD]
/-- The bytes that words hold. -/
theorem byte_words {ws : List (BitVec 64)} {a : Nat} {bs : List (BitVec 8)} (h : ∀ i, i < (bs.length + 7) / 8 → ws.getD (a + i) 0#64 = (wordsW bs).getD i 0#64) (j : Nat) (hj : j < 8 * ((bs.length + 7) / 8)) : byteAt ws (8 * a + j) = bs.getD j 0#8 := by
  have h1 : j / 8 < (bs.length + 7) / 8 := by omega
  have h2 := h (j / 8) h1
  unfold wordsW at h2
  rw [wordsN_get bs h1] at h2
  have h3 := byte_leN (ws := ws) (q := a + j / 8) (r := j % 8) (by omega) h2
  rw [show 8 * (a + j / 8) + j % 8 = 8 * a + j from by omega, take_getD _ (by omega), drop_getD, show 8 * (j / 8) + j % 8 = j from by omega] at h3
  exact h3
theorem app_getD {α : Type} (a b : List α) (d : α) {i k : Nat} (h : k = a.length) : (a ++ b).getD (k + i) d = b.getD i d := by
  subst h
  rw [List.getD_eq_getElem?_getD, List.getElem?_append_right (by omega), List.getD_eq_getElem?_getD, show a.length + i - a.length = i from by omega]
theorem app_getL {α : Type} (a b : List α) (d : α) {i : Nat} (h : i < a.length) : (a ++ b).getD i d = a.getD i d := by
  rw [List.getD_eq_getElem?_getD, List.getElem?_append_left h, List.getD_eq_getElem?_getD]
theorem map_getD' {α β : Type} (f : α → β) (l : List α) (d : β) {i : Nat} (h : i < l.length) : (l.map f).getD i d = f l[i] := by
  rw [List.getD_eq_getElem?_getD, List.getElem?_map, List.getElem?_eq_getElem h]
  rfl
/-- Nodes in words, from a place on: each stands where it is said to. -/
theorem at_node (pl : List Nat) : ∀ (l : List Nv) (pre : List (BitVec 64)) (a : Nat), pre.length = a → ∀ y ∈ placeL l a, ∃ x ∈ l, ∀ i, i < szG x → (pre ++ l.flatMap (nodeW pl)).getD (y + i) 0#64 = (nodeW pl x).getD i 0#64
  | [], _, _, _, y, h => by cases h
  | x :: r, pre, a, hp, y, h => by
    rw [List.flatMap_cons, ← List.append_assoc]
    unfold placeL at h
    rcases List.mem_cons.1 h with rfl | h
    · refine ⟨x, List.mem_cons_self .., fun i hi => ?_⟩
      rw [List.append_assoc, app_getD _ _ _ hp.symm, app_getL _ _ _ (by rw [nodeW_len]; exact hi)]
    · obtain ⟨z, hz, h2⟩ := at_node pl r (pre ++ nodeW pl x) (a + szG x) (by rw [List.length_append, nodeW_len, hp]) y h
      exact ⟨z, List.mem_cons_of_mem _ hz, h2⟩
theorem headW_ok {x : Nv} (h1 : x.ps.length ≤ 64) (h2 : x.bs.length ≤ 1024) : (∀ room, szG x ≤ room → goodX (headW x) room = true) ∧ szX (headW x) = szG x ∧ P0 (headW x) = x.ps.length ∧ B0 (headW x) = x.bs.length := by
  have hr : rightH (x.ps.length : Int) (x.bs.length : Int) false 0 = true := by unfold rightH; simp; omega
  have hs : sizeH (x.ps.length : Int) (x.bs.length : Int) false 0 = (szG x : Int) := by
    unfold sizeH szG
    rw [if_pos ⟨hr, rfl⟩]
    omega
  obtain ⟨u1, u2, _, _⟩ := un_pack _ _ _ _ hr
  obtain ⟨g1, g2⟩ := pack_run hr hs
  refine ⟨g1, g2, ?_, ?_⟩
  · unfold P0 headW; rw [u1]; rfl
  · unfold B0 headW; rw [u2]; rfl
theorem found_enc (pl : List Nat) : ∀ (l : List Nv) (pre : List (BitVec 64)) (a n t : Nat), (∀ x ∈ l, x.ps.length ≤ 64 ∧ x.bs.length ≤ 1024) → pre.length = a → t = endL l a → t < a + n → foundN (pre ++ l.flatMap (nodeW pl)) t n a = (placeL l a, none)
  | [], pre, a, 0, t, _, _, ht, hn => by
    have : t = a := ht
    omega
  | [], pre, a, n + 1, t, _, _, ht, hn => by
    have : t = a := ht
    unfold foundN
    rw [if_neg (by omega)]
    rfl
  | x :: r, pre, a, 0, t, _, _, ht, hn => by
    have := endL_ge (x :: r) a
    omega
  | x :: r, pre, a, n + 1, t, hx, hp, ht, hn => by
    obtain ⟨x1, x2⟩ := hx x (List.mem_cons_self ..)
    obtain ⟨g1, g2, _, _⟩ := headW_ok x1 x2
    have hge : a + szG x ≤ t := by rw [ht]; exact endL_ge r _
    have hs : 1 ≤ szG x := by unfold szG; omega
    have hd : (pre ++ (x :: r).flatMap (nodeW pl)).getD a 0#64 = headW x := by
      have h := app_getD pre ((x :: r).flatMap (nodeW pl)) 0#64 (i := 0) hp.symm
      rw [Nat.add_zero] at h
      rw [h]
      rfl
    have ih := found_enc pl r (pre ++ nodeW pl x) (a + szG x) n t (fun y hy => hx y (List.mem_cons_of_mem _ hy)) (by rw [List.length_append, nodeW_len, hp]) ht (by omega)
    have e : pre ++ (x :: r).flatMap (nodeW pl) = pre ++ nodeW pl x ++ r.flatMap (nodeW pl) := by rw [List.flatMap_cons, List.append_assoc]
    unfold foundN
    rw [if_pos (by omega), hd, if_pos (g1 _ (by omega)), g2, e, ih]
    rfl
theorem pointW_in {pl : List Nat} {p : Int} (h : okP pl.length p = true) (hb : ∀ y ∈ pl, y < 8192) : (pointW pl p).toNat = 0 ∨ (1 ≤ (pointW pl p).toNat ∧ (pointW pl p).toNat - 1 ∈ pl) := by
  unfold pointW
  by_cases h0 : p = 0
  · rw [if_pos h0]; exact .inl rfl
  · rw [if_neg h0]
    have hh : 1 ≤ p ∧ p ≤ (pl.length : Int) := by
      unfold okP hasG at h
      simpa [h0] using h
    have hl : p.toNat - 1 < pl.length := by omega
    have hm : pl.getD (p.toNat - 1) 0 ∈ pl := by
      rw [List.getD_eq_getElem?_getD, List.getElem?_eq_getElem hl]
      exact List.getElem_mem hl
    have := hb _ hm
    have e : (BitVec.ofNat 64 (pl.getD (p.toNat - 1) 0 + 1)).toNat = pl.getD (p.toNat - 1) 0 + 1 := by
      rw [BitVec.toNat_ofNat]
      exact Nat.mod_eq_of_lt (by omega)
    rw [e]
    exact .inr ⟨by omega, by rw [Nat.add_sub_cancel]; exact hm⟩
theorem well_enc {pl : List Nat} {ws : List (BitVec 64)} {x : Nv} {y : Nat} (h1 : x.ps.length ≤ 64) (h2 : x.bs.length ≤ 1024) (hp : ∀ p ∈ x.ps, okP pl.length p = true) (hb : ∀ y ∈ pl, y < 8192) (hw : ∀ i, i < szG x → ws.getD (y + i) 0#64 = (nodeW pl x).getD i 0#64) : wellN ws pl y = true := by
  obtain ⟨g1, g2, g3, g4⟩ := headW_ok h1 h2
  have hd : ws.getD y 0#64 = headW x := (hw 0 (by unfold szG; omega)).trans rfl
  unfold wellN
  rw [Bool.and_eq_true, List.all_eq_true]
  refine ⟨fun k hk => ?_, ?_⟩
  · have hk := List.mem_range.1 hk
    rw [hd, g3] at hk
    have e : ws.getD (y + 1 + k) 0#64 = pointW pl x.ps[k] := by
      rw [Nat.add_assoc, hw (1 + k) (by unfold szG; omega), Nat.add_comm 1 k]
      unfold nodeW
      rw [List.getD_cons_succ, app_getL _ _ _ (by rw [List.length_map]; exact hk), map_getD' _ _ _ hk]
    unfold ptrN
    rw [e]
    exact decide_eq_true (pointW_in (hp _ (List.getElem_mem hk)) hb)
  · unfold padN padB
    rw [hd, g2, g3, g4, List.all_eq_true]
    intro c hc
    unfold bytesM at hc
    obtain ⟨k, hk, rfl⟩ := List.mem_map.1 hc
    have hk := List.mem_range.1 hk
    have hq := byte_words (ws := ws) (a := y + 1 + x.ps.length) (bs := x.bs) (fun i hi => by
      rw [Nat.add_assoc y 1, Nat.add_assoc, hw _ (by unfold szG; omega)]
      unfold nodeW
      rw [show 1 + x.ps.length + i = (x.ps.length + i) + 1 from by omega, List.getD_cons_succ, app_getD _ _ _ (List.length_map ..).symm]) (x.bs.length + k) (by unfold szG at hk; omega)
    rw [Nat.add_assoc, hq, List.getD_eq_getElem?_getD, List.getElem?_eq_none (by omega)]
    rfl
theorem at_root (pl : List Nat) : ∀ (rs : List Rv) (pre post : List (BitVec 64)), (∀ r ∈ rs, r.s.size ≤ 32) → ∀ i (hi : i < rs.length) j, j < 5 → (pre ++ rs.flatMap (rootW pl) ++ post).getD (pre.length + 5 * i + j) 0#64 = (rootW pl rs[i]).getD j 0#64
  | [], _, _, _, i, hi, _, _ => absurd hi (Nat.not_lt_zero _)
  | r :: rs, pre, post, h, 0, hi, j, hj => by
    have hl := rootW_len pl (h r (List.mem_cons_self ..))
    rw [List.flatMap_cons, List.append_assoc, List.append_assoc, show pre.length + 5 * 0 + j = pre.length + j from by omega, app_getD _ _ _ rfl, app_getL _ _ _ (by omega)]
    rfl
  | r :: rs, pre, post, h, i + 1, hi, j, hj => by
    have hl := rootW_len pl (h r (List.mem_cons_self ..))
    have ih := at_root pl rs (pre ++ rootW pl r) post (fun y hy => h y (List.mem_cons_of_mem _ hy)) i (by rw [List.length_cons] at hi; omega) j hj
    rw [List.length_append, hl] at ih
    rw [List.flatMap_cons, ← List.append_assoc pre, show pre.length + 5 * (i + 1) + j = pre.length + 5 + 5 * i + j from by omega, ih]
    rfl
/-- What an image of a graph has: its front, its Roots, its objects. -/
theorem enc_found {ns : List Nv} {rs : List Rv} (hx : ∀ x ∈ ns, (∀ p ∈ x.ps, okP ns.length p = true) ∧ x.ps.length ≤ 64 ∧ x.bs.length ≤ 1024) (hr : ∀ r ∈ rs, goodS r.s = true ∧ okP ns.length r.t = true) (ht : endL ns (2 + 5 * rs.length) ≤ 8192) :
    foundN (encW ns rs) (encW ns rs).length ((encW ns rs).length + 1) (2 + 5 * rs.length) = (placeL ns (2 + 5 * rs.length), none) ∧
    allE (encW ns rs) (placeL ns (2 + 5 * rs.length)) (placeL ns (2 + 5 * rs.length)) = [] := by
  have h32 : ∀ r ∈ rs, r.s.size ≤ 32 := fun r hh => (goodS_size (hr r hh).1).2
  have hlen := encW_len ns rs h32
  have hpre : (frontW rs.length (endL ns (2 + 5 * rs.length)) ++ rs.flatMap (rootW (placeL ns (2 + 5 * rs.length)))).length = 2 + 5 * rs.length := by
    rw [List.length_append, roots_len _ rs h32]
    rfl
  refine ⟨?_, ?_⟩
  · unfold encW at hlen ⊢
    exact found_enc _ ns _ _ _ _ (fun x h => (hx x h).2) hpre hlen (by omega)
  · rw [allE_nil, List.all_eq_true]
    intro y hy
    obtain ⟨x, hm, hw⟩ := at_node (placeL ns (2 + 5 * rs.length)) ns _ _ hpre y hy
    obtain ⟨x1, x2, x3⟩ := hx x hm
    exact well_enc x2 x3 (fun p hp => by rw [placeL_len]; exact x1 p hp) (fun z hz => by have := placeL_lt ns _ z hz; omega) hw
theorem bytesM_at (ws : List (BitVec 64)) (a n j : Nat) (h : j < (bytesM ws a n).length) : (bytesM ws a n)[j] = byteAt ws (a + j) := by simp [bytesM]
theorem enc_root {ns : List Nv} {rs : List Rv} (hr : ∀ r ∈ rs, goodS r.s = true ∧ okP ns.length r.t = true) (ht : endL ns (2 + 5 * rs.length) ≤ 8192) (i : Nat) (hi : i < rs.length) :
    bytesM (encW ns rs) (8 * (2 + 5 * i)) 32 = nameW rs[i].s ∧ (((encW ns rs).getD (2 + 5 * i + 4) 0#64).toNat = 0 ∨ (1 ≤ ((encW ns rs).getD (2 + 5 * i + 4) 0#64).toNat ∧ ((encW ns rs).getD (2 + 5 * i + 4) 0#64).toNat - 1 ∈ placeL ns (2 + 5 * rs.length))) := by
  have h32 : ∀ r ∈ rs, r.s.size ≤ 32 := fun r hh => (goodS_size (hr r hh).1).2
  have hm := List.getElem_mem hi
  have hl := nameW_len (h32 _ hm)
  have hww : (wordsW (nameW rs[i].s)).length = 4 := by rw [wordsW_len, hl]
  have hat : ∀ j, j < 5 → (encW ns rs).getD (2 + 5 * i + j) 0#64 = (rootW (placeL ns (2 + 5 * rs.length)) rs[i]).getD j 0#64 := fun j hj => at_root _ rs (frontW rs.length (endL ns (2 + 5 * rs.length))) _ h32 i hi j hj
  constructor
  · apply List.ext_getElem
    · rw [hl]; unfold bytesM; simp
    · intro j h1 h2
      have hj : j < 32 := by rw [hl] at h2; exact h2
      rw [bytesM_at, byte_words (ws := encW ns rs) (a := 2 + 5 * i) (bs := nameW rs[i].s) (fun k hk => by
        rw [hl] at hk
        rw [hat k (by omega)]
        unfold rootW
        rw [app_getL _ _ _ (by omega)]) j (by rw [hl]; omega), List.getD_eq_getElem?_getD, List.getElem?_eq_getElem h2]
      rfl
  · have e : (encW ns rs).getD (2 + 5 * i + 4) 0#64 = pointW (placeL ns (2 + 5 * rs.length)) rs[i].t := by
      rw [hat 4 (by omega)]
      unfold rootW
      have h := app_getD (wordsW (nameW rs[i].s)) [pointW (placeL ns (2 + 5 * rs.length)) rs[i].t] 0#64 (i := 0) hww.symm
      exact h
    rw [e]
    exact pointW_in (by rw [placeL_len]; exact (hr _ hm).2) (fun z hz => by have := placeL_lt ns _ z hz; omega)
end Go.Proofs.Ytkkjnahjmomjgaa
/- A graph back from its words (pure). Conditions: a graph that Check lets. -/
namespace Go.Proofs.Ytkkjnahjmomjgaa
set_option linter.unusedVariables false
set_option linter.unusedSimpArgs false
open Go.RowKit Go.Maps
set_option maxHeartbeats 1000000
def numsL : List Nat → Nat → List (Int × Int)
  | [], _ => []
  | a :: r, i => ((a : Int), ((i + 1 : Nat) : Int)) :: numsL r (i + 1)
/-- The numbers of places; none's is 0. -/
def numM (l : List Nat) : List (Int × Int) := (-1, 0) :: numsL l 0
def numV (l : List Nat) (z : Int) : Int := (lookI (numM l) z).getD 0
theorem numsL_len : ∀ (l : List Nat) (i : Nat), (numsL l i).length = l.length
  | [], _ => rfl
  | a :: r, i => by unfold numsL; rw [List.length_cons, numsL_len r, List.length_cons]
theorem numsL_snoc (a : Nat) : ∀ (l : List Nat) (i : Nat), numsL (l ++ [a]) i = numsL l i ++ [((a : Int), ((i + l.length + 1 : Nat) : Int))]
  | [], i => rfl
  | b :: r, i => by
    rw [List.cons_append]
    unfold numsL
    rw [numsL_snoc a r (i + 1), List.length_cons, List.cons_append, show i + 1 + r.length + 1 = i + (r.length + 1) + 1 from by omega]
theorem numsL_mem : ∀ (l : List Nat) (i : Nat), ∀ p ∈ numsL l i, ∃ a ∈ l, p.1 = (a : Int)
  | [], _, p, h => by cases h
  | a :: r, i, p, h => by
    unfold numsL at h
    rcases List.mem_cons.1 h with rfl | h
    · exact ⟨a, List.mem_cons_self .., rfl⟩
    · obtain ⟨b, hb, e⟩ := numsL_mem r _ p h
      exact ⟨b, List.mem_cons_of_mem _ hb, e⟩
theorem numM_step (l : List Nat) (a : Nat) (h : ∀ y ∈ l, y < a) : putI (numM l) (a : Int) ((l.length + 1 : Nat) : Int) = numM (l ++ [a]) := by
  rw [put_end]
  · unfold numM
    rw [numsL_snoc, Nat.zero_add]
    rfl
  · intro p hp
    unfold numM at hp
    rcases List.mem_cons.1 hp with rfl | hp
    · show (-1 : Int) < (a : Int); omega
    · obtain ⟨y, hy, e⟩ := numsL_mem _ _ p hp
      have := h y hy
      rw [e]; omega
theorem look_nums : ∀ (l : List Nat) (j i : Nat) (h : i < l.length), l.Pairwise (· < ·) → lookI (numsL l j) ((l[i] : Nat) : Int) = some ((j + i + 1 : Nat) : Int)
  | [], _, _, h, _ => absurd h (Nat.not_lt_zero _)
  | a :: r, j, 0, h, _ => by
    unfold numsL lookI
    exact if_pos rfl
  | a :: r, j, i + 1, h, hp => by
    obtain ⟨h1, h2⟩ := List.pairwise_cons.1 hp
    have hi : i < r.length := by rw [List.length_cons] at h; omega
    have hlt := h1 _ (List.getElem_mem hi)
    unfold numsL lookI
    rw [if_neg (by show ¬ (a : Int) = (((a :: r)[i + 1] : Nat) : Int); rw [List.getElem_cons_succ]; omega), List.getElem_cons_succ, look_nums r (j + 1) i hi h2, show j + 1 + i + 1 = j + (i + 1) + 1 from by omega]
theorem numV_at {l : List Nat} (hp : l.Pairwise (· < ·)) {i : Nat} (h : i < l.length) : numV l ((l[i] : Nat) : Int) = ((i + 1 : Nat) : Int) := by
  unfold numV numM lookI
  rw [if_neg (by show ¬ (-1 : Int) = _; omega), look_nums l 0 i h hp, Nat.zero_add]
  rfl
theorem numV_no (l : List Nat) : numV l (-1) = 0 := by
  unfold numV numM lookI
  rw [if_pos rfl]
  rfl
theorem placeL_rise : ∀ (l : List Nv) (a : Nat), (placeL l a).Pairwise (· < ·)
  | [], _ => List.Pairwise.nil
  | x :: r, a => by
    unfold placeL
    refine List.pairwise_cons.2 ⟨fun y hy => ?_, placeL_rise r _⟩
    have := placeL_lt r _ y hy
    have h2 : 1 ≤ szG x := by unfold szG; omega
    omega
def normN (x : Nv) : Nv := ⟨none, 0, none, 0, x.ps, x.bs⟩
def normG (g : Gv) : Gv := ⟨none, 0, none, 0, g.n.map normN, g.r⟩
/-- The node at a place. -/
def dNode (ws : List (BitVec 64)) (l : List Nat) (a : Nat) : Nv :=
  ⟨none, 0, none, 0, (List.range (P0 (ws.getD a 0#64))).map (fun k => numV l (((ws.getD (a + 1 + k) 0#64).toNat : Int) - 1)), bytesM ws (8 * (a + 1 + P0 (ws.getD a 0#64)) + 0) (B0 (ws.getD a 0#64))⟩
def rtI (x : BitVec 64) : Int := IntKind.i64.wrap (IntKind.i64.wrap (U64 x) - 1)
def dRoot (ws : List (BitVec 64)) (l : List Nat) (i : Nat) : Rv := ⟨strB (cutN (bytesM ws (8 * (2 + 5 * i)) 32)), numV l (rtI (ws.getD (2 + 5 * i + 4) 0#64))⟩
theorem num_point {pl : List Nat} (hr : pl.Pairwise (· < ·)) {p : Int} (h : okP pl.length p = true) (hb : ∀ y ∈ pl, y < 8192) : numV pl (((pointW pl p).toNat : Int) - 1) = p ∧ (pointW pl p).toNat ≤ 8192 := by
  unfold pointW
  by_cases h0 : p = 0
  · rw [if_pos h0, h0]
    exact ⟨numV_no pl, by decide⟩
  · rw [if_neg h0]
    have hh : 1 ≤ p ∧ p ≤ (pl.length : Int) := by
      unfold okP hasG at h
      simpa [h0] using h
    have hl : p.toNat - 1 < pl.length := by omega
    have e0 : pl.getD (p.toNat - 1) 0 = pl[p.toNat - 1] := by rw [List.getD_eq_getElem?_getD, List.getElem?_eq_getElem hl]; rfl
    have hlt := hb _ (List.getElem_mem hl)
    have e : (BitVec.ofNat 64 (pl[p.toNat - 1] + 1)).toNat = pl[p.toNat - 1] + 1 := by
      rw [BitVec.toNat_ofNat]
      exact Nat.mod_eq_of_lt (by omega)
    rw [e0, e]
    refine ⟨?_, by omega⟩
    rw [show (((pl[p.toNat - 1] + 1 : Nat) : Int) - 1) = ((pl[p.toNat - 1] : Nat) : Int) from by omega, numV_at hr hl]
    omega
theorem dNode_enc {pl : List Nat} {ws : List (BitVec 64)} {x : Nv} {y : Nat} (hr : pl.Pairwise (· < ·)) (h1 : x.ps.length ≤ 64) (h2 : x.bs.length ≤ 1024) (hp : ∀ p ∈ x.ps, okP pl.length p = true) (hb : ∀ y ∈ pl, y < 8192) (hw : ∀ i, i < szG x → ws.getD (y + i) 0#64 = (nodeW pl x).getD i 0#64) : dNode ws pl y = normN x := by
  obtain ⟨g1, g2, g3, g4⟩ := headW_ok h1 h2
  have hd : ws.getD y 0#64 = headW x := (hw 0 (by unfold szG; omega)).trans rfl
  have e1 : (List.range (P0 (ws.getD y 0#64))).map (fun k => numV pl (((ws.getD (y + 1 + k) 0#64).toNat : Int) - 1)) = x.ps := by
    rw [hd, g3]
    apply List.ext_getElem
    · rw [List.length_map, List.length_range]
    · intro k h3 h4
      rw [List.getElem_map, List.getElem_range]
      have e : ws.getD (y + 1 + k) 0#64 = pointW pl x.ps[k] := by
        rw [Nat.add_assoc, hw (1 + k) (by unfold szG; omega), Nat.add_comm 1 k]
        unfold nodeW
        rw [List.getD_cons_succ, app_getL _ _ _ (by rw [List.length_map]; exact h4), map_getD' _ _ _ h4]
      rw [e]
      exact (num_point hr (hp _ (List.getElem_mem h4)) hb).1
  have e2 : bytesM ws (8 * (y + 1 + P0 (ws.getD y 0#64)) + 0) (B0 (ws.getD y 0#64)) = x.bs := by
    rw [hd, g3, g4, Nat.add_zero]
    apply List.ext_getElem
    · unfold bytesM; simp
    · intro j h3 h4
      have hq := byte_words (ws := ws) (a := y + 1 + x.ps.length) (bs := x.bs) (fun i hi => by
        rw [Nat.add_assoc y 1, Nat.add_assoc, hw _ (by unfold szG; omega)]
        unfold nodeW
        rw [show 1 + x.ps.length + i = (x.ps.length + i) + 1 from by omega, List.getD_cons_succ, app_getD _ _ _ (List.length_map ..).symm]) j (by omega)
      rw [bytesM_at, hq, List.getD_eq_getElem?_getD, List.getElem?_eq_getElem h4]
      rfl
  unfold dNode normN
  rw [e1, e2]
theorem nodes_dec {pl : List Nat} (hr : pl.Pairwise (· < ·)) (hb : ∀ y ∈ pl, y < 8192) : ∀ (l : List Nv) (pre : List (BitVec 64)) (a : Nat), (∀ x ∈ l, (∀ p ∈ x.ps, okP pl.length p = true) ∧ x.ps.length ≤ 64 ∧ x.bs.length ≤ 1024) → pre.length = a → (placeL l a).map (dNode (pre ++ l.flatMap (nodeW pl)) pl) = l.map normN
  | [], _, _, _, _ => rfl
  | x :: r, pre, a, hx, hp => by
    obtain ⟨x1, x2, x3⟩ := hx x (List.mem_cons_self ..)
    have ih := nodes_dec hr hb r (pre ++ nodeW pl x) (a + szG x) (fun y hy => hx y (List.mem_cons_of_mem _ hy)) (by rw [List.length_append, nodeW_len, hp])
    have e : pre ++ (x :: r).flatMap (nodeW pl) = pre ++ nodeW pl x ++ r.flatMap (nodeW pl) := by rw [List.flatMap_cons, List.append_assoc]
    unfold placeL
    rw [List.map_cons, List.map_cons, e, ih]
    congr 1
    refine dNode_enc hr x2 x3 x1 hb fun i hi => ?_
    rw [List.append_assoc, app_getD _ _ _ hp.symm, app_getL _ _ _ (by rw [nodeW_len]; exact hi)]
theorem enc_to {ns : List Nv} {rs : List Rv} (hr : ∀ r ∈ rs, goodS r.s = true ∧ okP ns.length r.t = true) (i : Nat) (hi : i < rs.length) : (encW ns rs).getD (2 + 5 * i + 4) 0#64 = pointW (placeL ns (2 + 5 * rs.length)) rs[i].t := by
  have h32 : ∀ r ∈ rs, r.s.size ≤ 32 := fun r hh => (goodS_size (hr r hh).1).2
  have hl := nameW_len (h32 _ (List.getElem_mem hi))
  have hww : (wordsW (nameW rs[i].s)).length = 4 := by rw [wordsW_len, hl]
  have hat : (encW ns rs).getD (2 + 5 * i + 4) 0#64 = (rootW (placeL ns (2 + 5 * rs.length)) rs[i]).getD 4 0#64 := at_root _ rs (frontW rs.length (endL ns (2 + 5 * rs.length))) _ h32 i hi 4 (by decide)
  rw [hat]
  unfold rootW
  exact app_getD (wordsW (nameW rs[i].s)) [pointW (placeL ns (2 + 5 * rs.length)) rs[i].t] 0#64 (i := 0) hww.symm
theorem rtI_small {x : BitVec 64} (h : x.toNat ≤ 8192) : rtI x = (x.toNat : Int) - 1 := by
  unfold rtI U64
  have w1 : IntKind.i64.wrap (x.toNat : Int) = (x.toNat : Int) := by simp [IntKind.wrap, IntKind.signed, IntKind.bits]; omega
  rw [w1]
  simp [IntKind.wrap, IntKind.signed, IntKind.bits]
  omega
/-- All that is in a graph's words. -/
theorem dec_enc {g : Gv} (h : ckG g = 0) (ht : endL g.n (2 + 5 * g.r.length) ≤ 8192) :
    (placeL g.n (2 + 5 * g.r.length)).map (dNode (encW g.n g.r) (placeL g.n (2 + 5 * g.r.length))) = g.n.map normN ∧ (List.range g.r.length).map (dRoot (encW g.n g.r) (placeL g.n (2 + 5 * g.r.length))) = g.r := by
  obtain ⟨h1, h2, h3⟩ := ckG_ok h
  have hr := placeL_rise g.n (2 + 5 * g.r.length)
  have hb : ∀ y ∈ placeL g.n (2 + 5 * g.r.length), y < 8192 := fun y hy => by have := placeL_lt g.n _ y hy; omega
  have h32 : ∀ r ∈ g.r, r.s.size ≤ 32 := fun r hh => (goodS_size (h3 r hh).1).2
  have hpl := placeL_len g.n (2 + 5 * g.r.length)
  have hpre : (frontW g.r.length (endL g.n (2 + 5 * g.r.length)) ++ g.r.flatMap (rootW (placeL g.n (2 + 5 * g.r.length)))).length = 2 + 5 * g.r.length := by
    rw [List.length_append, roots_len _ _ h32]
    rfl
  constructor
  · exact nodes_dec hr hb g.n _ _ (fun x hx => by rw [hpl]; exact h1 x hx) hpre
  · apply List.ext_getElem
    · rw [List.length_map, List.length_range]
    · intro i h4 h5
      rw [List.getElem_map, List.getElem_range]
      obtain ⟨e1, _⟩ := enc_root h3 ht i h5
      have e2 := enc_to h3 i h5
      obtain ⟨k1, k2⟩ := h3 _ (List.getElem_mem h5)
      obtain ⟨n1, n2⟩ := num_point hr (p := g.r[i].t) (by rw [hpl]; exact k2) hb
      unfold dRoot
      rw [e1, e2, rtI_small n2, n1, nameW_pad, good_cut (good_bits k1), strB_bits]
theorem ckNodes_norm (N : Nat) : ∀ l : List Nv, ckNodes N (l.map normN) = ckNodes N l
  | [] => rfl
  | x :: l => by
    rw [List.map_cons]
    unfold ckNodes
    rw [ckNodes_norm N l]
    rfl
theorem ckG_norm (g : Gv) : ckG (normG g) = ckG g := by
  unfold ckG normG
  simp only [List.length_map, ckNodes_norm]
theorem endL_norm : ∀ (l : List Nv) (a : Nat), endL (l.map normN) a = endL l a
  | [], _ => rfl
  | x :: l, a => endL_norm l (a + szG x)
theorem placeL_norm : ∀ (l : List Nv) (a : Nat), placeL (l.map normN) a = placeL l a
  | [], _ => rfl
  | x :: l, a => by
    rw [List.map_cons]
    unfold placeL
    rw [placeL_norm l (a + szG (normN x))]
    rfl
theorem nodes_norm (pl : List Nat) : ∀ l : List Nv, (l.map normN).flatMap (nodeW pl) = l.flatMap (nodeW pl)
  | [] => rfl
  | x :: l => by
    rw [List.map_cons, List.flatMap_cons, List.flatMap_cons, nodes_norm pl l]
    rfl
theorem enc_norm (ns : List Nv) (rs : List Rv) : encW (ns.map normN) rs = encW ns rs := by
  unfold encW
  rw [endL_norm, placeL_norm, nodes_norm]
/-- Graphs of the same contents have the same words. -/
theorem enc_same {g g' : Gv} (h : g.n.map normN = g'.n.map normN) (hr : g.r = g'.r) : encW g.n g.r = encW g'.n g'.r ∧ ckG g = ckG g' ∧ endL g.n (2 + 5 * g.r.length) = endL g'.n (2 + 5 * g'.r.length) := by
  refine ⟨?_, ?_, ?_⟩
  · rw [← enc_norm g.n, ← enc_norm g'.n, h, hr]
  · rw [← ckG_norm g, ← ckG_norm g']
    unfold normG
    rw [h, hr]
  · rw [← endL_norm g.n, ← endL_norm g'.n, h, hr]
/-- Graphs that Check lets have the same words just if they have the same contents. -/
theorem enc_inj {g g' : Gv} (h : ckG g = 0) (ht : endL g.n (2 + 5 * g.r.length) ≤ 8192) (h' : ckG g' = 0) (ht' : endL g'.n (2 + 5 * g'.r.length) ≤ 8192) (e : encW g.n g.r = encW g'.n g'.r) : g.n.map normN = g'.n.map normN ∧ g.r = g'.r := by
  obtain ⟨_, r2, r3⟩ := ckG_ok h
  obtain ⟨_, r2', r3'⟩ := ckG_ok h'
  have hl := encW_len g.n g.r (fun r hh => (goodS_size (r3 r hh).1).2)
  have hl' := encW_len g'.n g'.r (fun r hh => (goodS_size (r3' r hh).1).2)
  have e1 : (encW g.n g.r).getD 1 0#64 = BitVec.ofNat 64 (g.r.length + endL g.n (2 + 5 * g.r.length) * 65536) := rfl
  have e1' : (encW g'.n g'.r).getD 1 0#64 = BitVec.ofNat 64 (g'.r.length + endL g'.n (2 + 5 * g'.r.length) * 65536) := rfl
  have hR : g.r.length = g'.r.length := by
    rw [e, e1'] at e1
    have h1 := congrArg BitVec.toNat e1
    rw [BitVec.toNat_ofNat, BitVec.toNat_ofNat, Nat.mod_eq_of_lt (by omega), Nat.mod_eq_of_lt (by omega)] at h1
    omega
  have hf := (enc_found (ckG_ok h).1 r3 ht).1
  have hf' := (enc_found (ckG_ok h').1 r3' ht').1
  rw [e, hR, hf'] at hf
  have hpl : placeL g.n (2 + 5 * g'.r.length) = placeL g'.n (2 + 5 * g'.r.length) := ((Prod.mk.inj hf).1).symm
  obtain ⟨d1, d2⟩ := dec_enc h ht
  obtain ⟨d1', d2'⟩ := dec_enc h' ht'
  rw [hR, e, hpl, d1'] at d1
  rw [hR, e, hpl, d2'] at d2
  exact ⟨d1.symm, d2.symm⟩
end Go.Proofs.Ytkkjnahjmomjgaa
/- A region whose last but one operation waits for all others, and whose last one waits for that: by facts for the others, and then those two. No conditions. -/
namespace Go.Proofs.Ytkkjnahjmomjgaa
set_option linter.unusedVariables false
set_option linter.unusedSimpArgs false
open Go.RowKit
section
variable {P : Program} {ops : Array Oper} {Q : Exit → Act → World → Prop} {G : World → World → Prop} {F : Nat → Value → World → Prop} {a0 : Act} {w0 : World}
def regT2B (ops : Array Oper) (m size : Nat) : Bool :=
  ops.size == m + 2 && ((List.range m).all fun j => waitsB ops m j || (List.range m).any fun k => decide (j < k) && waitsB ops k j) && ((List.range (m + 2)).all fun i => eldB ops i) && ((List.range m).all fun i => ownB ops m size i) && waitsB ops (m + 1) m
theorem region_tail2 {id m : Nat} (hm : P.follows .mixedOrders = true) (hrefl : G w0 w0.drew) (htrans : ∀ a b c, G a b → G b c → G a c) (hmono : ∀ j, j < m → ∀ v a b, F j v a → G a b → F j v b)
    (hreg : regT2B ops m a0.tmps.size = true) (howes : ∀ i, i < m → Owes P ops Q G F a0 w0 i)
    (fin : ∀ (vals : Nat → Value) (w : World), G w0 w → (∀ j, j < m → F j (vals j) w) → wpOp P ops Q m (fun a w => wpOp P ops Q (m + 1) (fun a w => Q .normal a w) a w) (putL ops vals (List.range m) a0) w) :
    (Code.region id ops true).wp P Q a0 w0 := by
  unfold regT2B at hreg
  simp only [Bool.and_eq_true, beq_iff_eq, List.all_eq_true, List.mem_range] at hreg
  obtain ⟨⟨⟨⟨hsize, hwaits⟩, held⟩, hown⟩, hlast⟩ := hreg
  have getT : ∀ (l : Array Bool) (k : Nat) (b c : Bool), k < l.size → l.getD k b = l.getD k c := by
    intro l k b c hk
    rw [Array.getD_eq_getD_getElem?, Array.getD_eq_getD_getElem?, Array.getElem?_eq_getElem hk]; rfl
  have main : ∀ (fuel : Nat) (listed : Array Bool) (a : Act) (w : World), listed.size = ops.size → listed.getD m true = false → listed.getD (m + 1) true = false →
      ((List.range ops.size).filter fun j => !listed.getD j true).length ≤ fuel →
      G w0 w → a.defers = a0.defers → a.tmps.size = a0.tmps.size →
      (∀ j, j < m → listed.getD j true = true → F j (valAt ops a j) w) →
      (∀ t, (∀ j, j < m → listed.getD j true = true → dstOf ops j ≠ some t) → a.tmps.getD t undef = a0.tmps.getD t undef) →
      (∀ j, j < m → listed.getD j true = true → ∀ k, waitsB ops j k = true → listed.getD k false = true) →
      wpAny P .any ops Q fuel listed a w := by
    intro fuel
    induction fuel with
    | zero =>
      intro listed a w hsz hun hun2 hcnt
      exfalso
      have : m ∈ (List.range ops.size).filter fun j => !listed.getD j true := List.mem_filter.2 ⟨List.mem_range.2 (by omega), by simp only [hun]; rfl⟩
      rw [List.eq_nil_of_length_eq_zero (Nat.le_zero.1 hcnt)] at this
      cases this
    | succ fuel ih =>
      intro listed a w hsz hun hun2 hcnt hG hd hs hF hR hC
      refine ⟨fun hr => ?_, fun i hi => ?_⟩
      · exfalso
        have up : ∀ j, j < m + 2 → listed.getD j true = true := by
          intro j
          induction j using Nat.strongRecOn with
          | ind j ihj =>
            intro hj
            cases hl : listed.getD j true with
            | true => rfl
            | false =>
              exfalso
              obtain ⟨o, ho, he⟩ := eldB_out (held j hj)
              have : j ∈ Region.ready .any ops listed := mem_ready.2 ⟨hl, o, ho, fun e hem hb => by
                have hlt := he e hem hb
                rw [getT _ _ false true (by omega)]
                exact ihj e.on hlt (by omega)⟩
              rw [hr] at this
              cases this
        rw [up m (by omega)] at hun
        cases hun
      · obtain ⟨hui, o, ho, hall⟩ := mem_ready.1 hi
        have hlt : i < ops.size := (Array.getElem?_eq_some_iff.1 ho).1
        have hlz : i < listed.size := by omega
        have hw : ∀ j, waitsB ops i j = true → j < ops.size ∧ listed.getD j true = true := by
          intro j hj
          obtain ⟨o', ho', e, he, hb, rfl⟩ := waits_some hj
          rw [ho] at ho'
          injection ho' with ho'
          subst ho'
          have h1 := hall e he hb
          rcases Nat.lt_or_ge e.on listed.size with hl | hl
          · refine ⟨by omega, ?_⟩
            rw [getT _ _ true false hl]
            exact h1
          · rw [Array.getD_eq_getD_getElem?, Array.getElem?_eq_none hl] at h1; cases h1
        have hset : ∀ j b, (listed.setIfInBounds i true).getD j b = if j = i then true else listed.getD j b := by
          intro j b
          rw [Array.getD_eq_getD_getElem?, Array.getD_eq_getD_getElem?, Array.getElem?_setIfInBounds]
          by_cases e : i = j
          · subst e; simp [hlz]
          · rw [if_neg e, if_neg (fun h => e h.symm)]
        by_cases him : i = m
        · subst him
          have hall2 : ∀ n j, j < i → i - j ≤ n → listed.getD j true = true := by
            intro n
            induction n with
            | zero => intro j hj hn; omega
            | succ n ihn =>
              intro j hj hn
              have h1 := hwaits j hj
              rw [Bool.or_eq_true] at h1
              rcases h1 with h1 | h1
              · exact (hw j h1).2
              · rw [List.any_eq_true] at h1
                obtain ⟨k, hk, hkj⟩ := h1
                rw [Bool.and_eq_true, decide_eq_true_eq] at hkj
                have hki := List.mem_range.1 hk
                rw [getT _ _ true false (by omega)]
                exact hC k hki (ihn k hki (by omega)) j hkj.2
          have hall' : ∀ j, j < i → listed.getD j true = true := fun j hj => hall2 (i - j) j hj (Nat.le_refl _)
          have h1 := fin (valAt ops a) w hG (fun j hj => hF j hj (hall' j hj))
          rw [putL_whole a (List.range i) a0 hs.symm hd.symm] at h1
          · refine wpOp_mono (fun a' w' hq => ?_) h1
            have hset2 : ∀ j, j < ops.size → j ≠ i + 1 → (listed.setIfInBounds i true).getD j true = true := fun j hj hne => by
              rw [hset]
              by_cases e : j = i
              · rw [if_pos e]
              · rw [if_neg e]; exact hall' j (by omega)
            have hun3 : (listed.setIfInBounds i true).getD (i + 1) true = false := by rw [hset, if_neg (by omega)]; exact hun2
            obtain ⟨f1, rfl⟩ : ∃ f, fuel = f + 1 := by
              have h2 : ((List.range ops.size).filter fun j => !listed.getD j true).length ≤ fuel + 1 := hcnt
              have h4 := List.Nodup.length_le_of_subset (l₁ := [i, i + 1]) (l₂ := (List.range ops.size).filter fun j => !listed.getD j true) (by simp) (fun x hx => by
                simp only [List.mem_cons, List.not_mem_nil, or_false] at hx
                rcases hx with rfl | rfl
                · exact List.mem_filter.2 ⟨List.mem_range.2 (by omega), by simp only [hun]; rfl⟩
                · exact List.mem_filter.2 ⟨List.mem_range.2 (by omega), by simp only [hun2]; rfl⟩)
              simp only [List.length_cons, List.length_nil] at h4
              exact ⟨fuel - 1, by omega⟩
            obtain ⟨o2, ho2, he2⟩ := eldB_out (held (i + 1) (by omega))
            have hrd : i + 1 ∈ Region.ready .any ops (listed.setIfInBounds i true) := mem_ready.2 ⟨hun3, o2, ho2, fun e hem hb => by
              have hlt2 := he2 e hem hb
              rw [getT _ _ false true (by simp only [Array.size_setIfInBounds]; omega)]
              exact hset2 e.on (by omega) (by omega)⟩
            refine ⟨fun hr => ?_, fun k hk => ?_⟩
            · exfalso
              rw [hr] at hrd
              cases hrd
            · obtain ⟨h2, o3, ho3, _⟩ := mem_ready.1 hk
              have hkl : k < ops.size := (Array.getElem?_eq_some_iff.1 ho3).1
              have hki : k = i + 1 := by
                by_cases e : k = i + 1
                · exact e
                · rw [hset2 k hkl e] at h2; cases h2
              subst hki
              refine wpOp_mono (fun a2 w2 hq2 => ?_) hq
              refine wpAny_done ?_ hq2 f1
              apply List.eq_nil_iff_forall_not_mem.2
              intro j hj
              obtain ⟨h5, o5, ho5, _⟩ := mem_ready.1 hj
              have hj2 : j < ops.size := (Array.getElem?_eq_some_iff.1 ho5).1
              rw [Array.getD_eq_getD_getElem?, Array.getElem?_setIfInBounds] at h5
              by_cases e : i + 1 = j
              · subst e
                rw [if_pos rfl] at h5
                simp [hsz, hj2] at h5
              · rw [if_neg e, ← Array.getD_eq_getD_getElem?, hset2 j hj2 (fun h => e h.symm)] at h5; cases h5
          · intro t
            by_cases e : ∃ j, j < i ∧ dstOf ops j = some t
            · obtain ⟨j, hj, hjd⟩ := e
              exact .inr ⟨j, List.mem_range.2 hj, hjd⟩
            · left
              exact (hR t fun j hj _ he => e ⟨j, hj, he⟩).symm
        · have him2 : i ≠ m + 1 := fun e => by
            subst e
            have h9 := (hw m hlast).2
            rw [hun] at h9; cases h9
          have hi' : i < m := by omega
          obtain ⟨d, hdo, hdl, hdd⟩ := ownB_out (hown i hi')
          have hwm : ∀ j, waitsB ops i j = true → j < m := by
            intro j hj
            obtain ⟨o', ho', e, he, hb, rfl⟩ := waits_some hj
            obtain ⟨o2, ho2, he2⟩ := eldB_out (held i (by omega))
            rw [ho'] at ho2
            injection ho2 with ho2
            subst ho2
            have := he2 e he hb
            omega
          have hstep := howes i hi' a w hG hd hs (fun j hj => hF j (hwm j hj) (hw j hj).2) (fun t ht => hR t fun j hj hl he => by
            have h1 := hC j hj hl i (ht j he)
            rw [getT _ _ false true hlz, hui] at h1
            cases h1)
          refine wpOp_mono ?_ hstep
          rintro a' w' ⟨v, rfl, hg, hf⟩
          rw [hdo]
          refine ih (listed.setIfInBounds i true) (a.put (some d) v) w' (by simp [hsz]) (by rw [hset, if_neg (fun h => him h.symm)]; exact hun) (by rw [hset, if_neg (fun h => him2 h.symm)]; exact hun2) ?_ (htrans _ _ _ hG hg) (by exact hd) (by rw [put_size, hs]) ?_ ?_ ?_
          · have := filter_less (p := fun j => !listed.getD j true) (q := fun j => !(listed.setIfInBounds i true).getD j true) (i := i) (l := List.range ops.size) (fun x hx => by
              rw [hset] at hx
              by_cases e : x = i
              · rw [if_pos e] at hx; cases hx
              · rw [if_neg e] at hx; exact hx) (List.mem_range.2 hlt) (by rw [hui]; rfl) (by rw [hset, if_pos rfl]; rfl)
            omega
          · intro j hj hl
            by_cases e : j = i
            · subst e
              unfold valAt
              rw [hdo]
              simp only
              rw [put_same _ _ _ (by rw [hs]; exact hdl)]
              exact hf
            · rw [hset, if_neg e] at hl
              have h1 := hmono j hj _ _ _ (hF j hj hl) hg
              have h2 : valAt ops (a.put (some d) v) j = valAt ops a j := by
                unfold valAt
                have hne := hdd j hj e
                cases hjd : dstOf ops j with
                | none => rfl
                | some dj =>
                  simp only
                  exact put_other _ _ _ _ (fun h => hne (by rw [hjd]; exact h.symm))
              rw [h2]
              exact h1
          · intro t ht
            have h1 : some d ≠ some t := fun h => ht i hi' (by rw [hset, if_pos rfl]) (by rw [hdo]; exact h)
            rw [put_other _ _ _ _ h1]
            exact hR t fun j hj hl => ht j hj (by rw [hset]; split <;> simp_all)
          · intro j hj hl k hk
            rw [hset]
            by_cases e : k = i
            · rw [if_pos e]
            · rw [if_neg e]
              by_cases e2 : j = i
              · subst e2
                have h1 := hw k hk
                rw [getT _ _ false true (by omega)]
                exact h1.2
              · rw [hset, if_neg e2] at hl
                exact hC j hj hl k hk
  refine wp_region_any hm ?_
  refine main ops.size (Array.replicate ops.size false) a0 w0.drew (by simp) ?_ ?_ ?_ hrefl rfl rfl ?_ ?_ ?_
  · rw [Array.getD_eq_getD_getElem?, Array.getElem?_eq_getElem (by simp; omega)]
    simp
  · rw [Array.getD_eq_getD_getElem?, Array.getElem?_eq_getElem (by simp; omega)]
    simp
  · exact Nat.le_trans (List.length_filter_le _ _) (by simp)
  · intro j hj hl
    rw [Array.getD_eq_getD_getElem?, Array.getElem?_eq_getElem (by simp; omega)] at hl
    simp at hl
  · intro t _; rfl
  · intro j hj hl
    rw [Array.getD_eq_getD_getElem?, Array.getElem?_eq_getElem (by simp; omega)] at hl
    simp at hl
/-- region_tail2, by lists. -/
theorem region_by_tail2 {id m : Nat} (Fs : List (Value → World → Prop)) (ds : List Tmp)
    (hm : P.follows .mixedOrders = true) (hrefl : G w0 w0.drew) (htrans : ∀ a b c, G a b → G b c → G a c)
    (hreg : regT2B ops m a0.tmps.size = true) (hds : (List.range' 0 m).map (dstOf ops) = ds.map some)
    (hmono : ∀ f ∈ Fs, ∀ v a b, f v a → G a b → f v b)
    (howes : AllN (Owes P ops Q G (fun j => Fs.getD j fun _ _ => True) a0 w0) m 0)
    (fin : ∀ (vals : Nat → Value) (w : World), G w0 w → (∀ j, j < m → (Fs.getD j fun _ _ => True) (vals j) w) → wpOp P ops Q m (fun a w => wpOp P ops Q (m + 1) (fun a w => Q .normal a w) a w) (putD vals ds 0 a0) w) :
    (Code.region id ops true).wp P Q a0 w0 := by
  refine region_tail2 (m := m) hm hrefl htrans ?_ hreg (fun i hi => howes.at_ _ _ i (by omega) (by omega)) ?_
  · intro j _ v a b h g
    rw [List.getD_eq_getElem?_getD] at h ⊢
    cases hj : Fs[j]? with
    | none => rw [hj] at h; exact trivial
    | some f => rw [hj] at h; exact hmono f (List.mem_of_getElem? hj) v a b h g
  · intro vals w hG hF
    rw [List.range_eq_range', putD_eq vals ds m 0 a0 hds]
    exact fin vals w hG hF
/-- The last but one, by what it does alone; the last one behind it. -/
theorem next_spine {m : Nat} {K : Act → World → Prop} {d : Option Tmp} {op : Op} {type : TypeId} {a : Act} {w : World} (ho : (ops[m]?).map (fun o => (o.op, o.type)) = some (op, type)) (hdo : (ops[m]?).map (·.dst) = some d) (hg : (ops[m]?).bind (·.guard) = none)
    (h : wpList P #[{ dst := d, op, type, pos := "", after := #[], guard := none }] (SpineQ a.defers (fun _ => True) K) [{ dst := d, op, type, pos := "", after := #[], guard := none }] a w) : wpOp P ops Q m K a w := by
  cases hi : ops[m]? with
  | none => rw [hi] at ho; cases ho
  | some o =>
    rw [hi] at ho hdo hg
    obtain ⟨dst, op', type', pos, after, guard⟩ := o
    simp only [Option.map_some, Option.some.injEq, Prod.mk.injEq] at ho hdo
    obtain ⟨rfl, rfl⟩ := ho
    subst hdo
    simp only [Option.bind_some] at hg
    subst hg
    unfold wpOp
    rw [hi]
    unfold wpList at h
    simp only [Region.wanted, if_true] at h ⊢
    left
    have he : execOp a.eval { dst, op := op', type := type', pos, after, guard := none } = execOp a.eval { dst, op := op', type := type', pos := "", after := #[], guard := none } := by
      cases op' <;> rfl
    rcases h with h | ⟨_, h2⟩
    · unfold Oper.wp at h ⊢
      rw [he]
      generalize (execOp a.eval { dst, op := op', type := type', pos := "", after := #[], guard := none }).run P w = r at *
      cases r with
      | ok n w' =>
        cases n <;> simp only [Oper.upon, wpList] at h ⊢
        case value u => exact h.2.2
        case skip => exact h.2.2
        case defer u => exact h.2.2
        case enter f args =>
          refine Calls.mono h fun e w'' he => ?_
          cases e with
          | returned u => exact he.2.2
          | panicked c => exact he.elim
          | outgrown => obtain ⟨_, _, hf⟩ := he; exact hf.elim
        case row row args => exact Rows.mono h fun u w'' he => he.2.2
      | halt x w' =>
        cases x <;> simp only [Oper.upon] at h ⊢
        case panic u => exact h.elim
    · obtain ⟨_, _, h3⟩ := h2
      exact h3.elim
theorem wpOp_weak {m : Nat} {K K2 : Act → World → Prop} {a : Act} {w : World} (h : wpOp P ops Q m K a w) (hk : ∀ a w, K a w → K2 a w) : wpOp P ops Q m K2 a w := wpOp_mono (fun a w => hk a w) h
theorem next_spine2 {m n : Nat} {d d2 : Option Tmp} {op op2 : Op} {type type2 : TypeId} {a : Act} {w : World} (ho : (ops[m]?).map (fun o => (o.op, o.type)) = some (op, type)) (hdo : (ops[m]?).map (·.dst) = some d) (hg : (ops[m]?).bind (·.guard) = none)
    (ho2 : (ops[n]?).map (fun o => (o.op, o.type)) = some (op2, type2)) (hdo2 : (ops[n]?).map (·.dst) = some d2) (hg2 : (ops[n]?).bind (·.guard) = none)
    (h : wpList P #[{ dst := d, op, type, pos := "", after := #[], guard := none }] (SpineQ a.defers (fun _ => True) (fun a w => wpList P #[{ dst := d2, op := op2, type := type2, pos := "", after := #[], guard := none }] Q [{ dst := d2, op := op2, type := type2, pos := "", after := #[], guard := none }] a w)) [{ dst := d, op, type, pos := "", after := #[], guard := none }] a w) :
    wpOp P ops Q m (fun a w => wpOp P ops Q n (fun a w => Q .normal a w) a w) a w :=
  wpOp_weak (next_spine ho hdo hg h) fun _ _ h => last_list ho2 hdo2 hg2 h
end
end Go.Proofs.Ytkkjnahjmomjgaa
